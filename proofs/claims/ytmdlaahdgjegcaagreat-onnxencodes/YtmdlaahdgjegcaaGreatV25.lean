import Derived.Deep.RegionWith
import Derived.Deep.RegionHeld3
import Derived.Test.YtmdlaahdgjegcaaGreatV21
import Derived.Test.YtmdlaahdgjegcaaGreatV24
set_option maxRecDepth 100000
set_option maxHeartbeats 8000000
namespace Go.Proofs.YtmdlaahdgjegcaaGreat
open Go.RowKit
set_option linter.unusedVariables false
def OwnS {α:Type} (t:TypeId) (f:α → Value) (w w':World) (v:Value) (l:List α):Prop:=w'.ownsRow w.heap.size t 1 v l.length (l.map f)
theorem ownsRow_stay {base k n g:Nat} {e:TypeId} {w w':World} {v:Value} {xs:List Value} (h:w.ownsRow base e k v n xs) (hg:g < base) (s:Stay g w w'):w'.ownsRow base e k v n xs:=by
 obtain ⟨l1,h1⟩:=h
 refine ⟨l1,?_⟩
 rcases h1 with ⟨rfl,h0⟩ | ⟨b,cap,cur,rfl,hb1,hh,hc,hm,hs2,ht⟩
 ·exact .inl ⟨rfl,h0⟩
 ·exact .inr ⟨b,cap,cur,rfl,hb1,(s.block (by omega) (lt_of_block hh)).trans hh,hc,hm,hs2,ht⟩
theorem int1_len:∀ f l,int1 f = some l → l.length ≤ f.2.2.2.length + 1:=fun f l h => by
 unfold int1 at h
 split at h
 ·simp at h; subst h; simp
 ·split at h
  ·have:=varsL_len h; omega
  ·cases h
theorem allOr_len7 {g1:Fld → Option (List Int)} (hg:∀ f l,g1 f = some l → l.length ≤ f.2.2.2.length + 1) (num:Int):∀ (L:List FA) (xs:List Int),allOr g1 (allV (L.map FA.f) num) = some xs → xs.length ≤ sumD L + L.length
 | [],xs,h => by simp [allV,allOr] at h; subst h; simp
 | a :: r,xs,h => by
   have e:sumD (a :: r) = a.d.length + sumD r:=by simp [sumD]
   rw [e,List.length_cons]
   unfold allV at h
   rw [List.map_cons,List.filter_cons] at h
   split at h
   ·rw [allOr] at h
    cases hx:g1 a.f with
    | none => rw [hx] at h; cases h
    | some x =>
      rw [hx] at h
      simp only [Option.map_eq_some_iff] at h
      obtain ⟨y,hy,rfl⟩:=h
      have h1:=hg _ _ hx
      have h2:=allOr_len7 hg num r y hy
      have:a.f.2.2.2 = a.d:=rfl
      rw [this] at h1
      rw [List.length_append]
      omega
   ·have:=allOr_len7 hg num r xs h
    omega
theorem list_len7 {g1:Fld → Option (List Int)} (hg:∀ f l,g1 f = some l → l.length ≤ f.2.2.2.length + 1) {L:List FA} {num:Int}:(listV g1 (L.map FA.f) num).1.length ≤ sumD L + L.length:=by
 unfold listV
 cases h:allOr g1 (allV (L.map FA.f) num) with
 | none => simp
 | some x => exact allOr_len7 hg num L x h
theorem cnamed_any (g:Nat) (q:Option Addr) (n d:Nat) (p:Option Addr) (c:Nat) (b:List Int) (w:World) (hw:WstE g w) (hb:Ls (Value.int .u8) w p c b) (ho:Off g p b.length) :
  Calls Tryz.prog 172 #[msV q n d g,.slice p b.length c] w fun e w' => e = .returned (strV b) ∧ RE g (big3 (decide (256 < b.length))) w w':=by
 have C1:=hide (fun v (hv:WstE g v) => climit_any g q n d b.length 256 v hv)
 rw [show decide ((256:Int) < (b.length:Int)) = decide (256 < b.length) from by rw [decide_eq_decide]; omega] at C1
 generalize decide (256 < b.length) = D at C1 ⊢
 have nl:=hb.len
 have HB:=hide hb
 have HO:=hide ho
 have HW:=hide hw
 clear hb ho hw
 unfold msV at C1 ⊢
 unfold strV
 go_enter Tryz.func172,Tryz.ntmps172
 go_wp2_with fail
 refine (uh C1 _ ((uh HW).below (al1p _ _))).mono ?_
 rintro e v ⟨rfl,hv⟩
 have H1:=hide ((RE.below (al1p _ _) (uh HW)).trans hv)
 rw [no_f3] at H1
 have kc:=conv_str (dst:=9) Tryz.underlying22 Tryz.underlying5 Tryz.underlying9 (((uh HB).below (al1p _ _)).stay7 (uh HO) hv.1)
 clear hv
 go_wp2_with fail
 go_ret
 exact ⟨rfl,uh H1⟩
theorem cnam_any (g:Nat) (q:Option Addr) (d:Nat) (L:List FA) (num:Int) (w:World) (hw:WstE g w) (h:MsIn g w q d L) :
  Calls Tryz.prog 117 #[msV q L.length d g,.int .i64 num] w fun e w' => e = .returned (strV (nameP (L.map FA.f) num).1) ∧ RE g (nameP (L.map FA.f) num).2 w w':=by
 have C1:=hide (fun v (hv:Below w.heap.size w v) => clastm_any g q d L num 2 v (hw.below hv) (h.stay (Stay.below hv (Nat.le_of_lt hw.lt))))
 have C2:=hide (fun p c b v (hv:WstE g v) (hb:Ls (Value.int .u8) v p c b) ho => cnamed_any g q L.length d p c b v hv hb ho)
 have HV:Hid (nameP (L.map FA.f) num = ((lastV (L.map FA.f) num 2).1.2.2.2,f3 (bad3 ((lastV (L.map FA.f) num 2).2.2 != 0)) (big3 (decide (256 < (lastV (L.map FA.f) num 2).1.2.2.2.length))))):=hide rfl
 rw [uh HV]
 clear HV
 generalize lastV (L.map FA.f) num 2 = R at C1 ⊢
 obtain ⟨R1,R2,R3⟩:=R
 simp only at C1 ⊢
 generalize (R3 != 0) = D at C1 ⊢
 have HW:=hide hw
 have gl:=hw.lt
 clear hw h
 unfold msV at C1 C2 ⊢
 go_enter Tryz.func117,Tryz.ntmps117
 go_wp2_with fail
 refine (uh C1 _ (al1p _ _)).mono ?_
 rintro e w1 ⟨a,rfl,hq⟩
 obtain ⟨h1,h2,h3,h4⟩:=uh hq
 have r1:=(RE.below (al1p w _) (uh HW)).trans h4
 rw [no_f3] at r1
 have X1:=hide (h4.1.box (Box.new w #[.slice q L.length d,.pointer (some ⟨g,0,none⟩)] 58) (by omega))
 have x1:=fun o => ((uh X1).alloc o).cell
 have R1':=hide r1
 subst h1
 have H2:=hide h2
 have H3:=hide (h3 g (by simp; omega))
 clear hq h4 C1 r1 h2 h3
 obtain ⟨an,awr,ax,ad,aq,ac⟩:=a
 unfold faV
 simp only
 go_wp2_with fail
 refine (uh C2 _ _ ad _ (((uh R1').wst (uh HW)).below (al1p w1 _)) (((uh H2).below (al1p w1 _)).2.2.2.ls) (uh H3)).mono ?_
 rintro e w2 ⟨rfl,hv⟩
 have H5:=hide (((uh R1').trans (RE.below (al1p w1 _) ((uh R1').wst (uh HW)))).trans hv)
 rw [f3_no] at H5
 clear hv
 go_wp2_with fail
 go_ret
 exact ⟨rfl,uh H5⟩
theorem join_flat (num:Int):∀ (L:List FA),((allV (L.map FA.f) num).flatMap fun f => f.2.2.2).length ≤ sumD L
 | [] => by simp [allV,sumD]
 | a :: r => by
   have ih:=join_flat num r
   have e:sumD (a :: r) = a.d.length + sumD r:=by simp [sumD]
   rw [e]
   unfold allV at ih ⊢
   rw [List.map_cons,List.filter_cons]
   split
   ·rw [List.flatMap_cons,List.length_append]
    have:a.f.2.2.2 = a.d:=rfl
    rw [this]; omega
   ·omega
theorem joinV_len {L:List FA} {num:Int}:((joinV (L.map FA.f) num).1).length ≤ sumD L:=by
 unfold joinV
 split
 ·simp
 ·exact join_flat num L
theorem joinV_isB {L:List FA} {num:Int} (h:∀ a ∈ L,isB a.d):isB (joinV (L.map FA.f) num).1:=by
 unfold joinV
 split
 ·exact fun c hc => by cases hc
 ·intro c hc
  obtain ⟨f,hf,hc⟩:=List.mem_flatMap.1 hc
  obtain ⟨a,ha,rfl⟩:=List.mem_map.1 (List.mem_filter.1 hf).1
  exact h a ha c hc
theorem cinnerm_any (g:Nat) (q:Option Addr) (d:Nat) (L:List FA) (num:Int) (w:World) (hw:WstE g w) (h:MsIn g w q d L) :
  Calls Tryz.prog 62 #[msV q L.length d g,.int .i64 num] w fun e w' => ∃ q' d' L',e = .returned (.tuple #[msV q' L'.length d' g,.bool (messageP (L.map FA.f) num).1.2]) ∧ Hid (L'.map FA.f = (fieldsP (messageP (L.map FA.f) num).1.1).1 ∧ MsIn g w' q' d' L' ∧ RE g (f3 (messageP (L.map FA.f) num).2 (fieldsP (messageP (L.map FA.f) num).1.1).2) w w'):=by
 obtain ⟨s1,s2,s3⟩:=h.small
 have C1:=hide (fun v (hv:Below w.heap.size w v) => cjoined_any q d L num v (h.1.below hv) (by omega) (by omega))
 have C3:=hide (fun p c b v (hv:WstE g v) (hb:Ints .u8 v p c b) hl => copened_any g q L.length d p c b v hv hb hl)
 have hjl:=joinV_len (L:=L) (num:=num)
 have HJB:Hid (isB (joinV (L.map FA.f) num).1):=hide (joinV_isB (fun a ha => wf_isB (h.1.2 a ha).2.2.2.2.2.1))
 have HV:Hid (messageP (L.map FA.f) num = (((joinV (L.map FA.f) num).1,(joinV (L.map FA.f) num).2.1),bad3 ((joinV (L.map FA.f) num).2.2 != 0))):=hide rfl
 rw [uh HV]
 clear HV
 generalize joinV (L.map FA.f) num = R at C1 hjl HJB ⊢
 obtain ⟨R1,R2,R3⟩:=R
 simp only at C1 hjl HJB ⊢
 have C2:=hide (fun v (hv:WstE g v) => cnote_bad g q L.length d (R3 != 0) v hv)
 obtain ⟨D,hD⟩:∃ D,(R3 != 0) = D:=⟨_,rfl⟩
 rw [hD] at C2 ⊢
 have HW:=hide hw
 have gl:=hw.lt
 clear hw h s3
 obtain ⟨FF,hFF⟩:∃ F,fieldsP R1 = F:=⟨_,rfl⟩
 have HFF:=hide hFF
 rw [hFF]
 clear hFF
 unfold msV at C2 C3 ⊢
 go_enter Tryz.func62,Tryz.ntmps62
 go_wp2_with fail
 refine (uh C1 _ (al2p _ _ _)).mono ?_
 rintro e w1 ⟨v1,rfl,hO⟩
 obtain ⟨q1,d1,rfl,hl1,hf1⟩:=hO.form
 have L1:=hide (hl1.ints (isB_wf (uh HJB)))
 have O1:Hid (Off g q1 R1.length):=hide (fun b o e hp => by have:=(hf1 b o e hp).1; simp only [alloc_size6] at this; omega)
 have B1:=hide (bl_tr (al2p w _ _) hO.2)
 have X1:=hide (Box.below (Box.alloc (Box.new w #[.slice q L.length d,.pointer (some ⟨g,0,none⟩)] 58) _) hO.2)
 have Y1:=hide (Box.below (Box.new (w.alloc (Obj.cells #[.slice q L.length d,.pointer (some ⟨g,0,none⟩)] 58)) #[.slice none 0 0,.pointer none] 58) hO.2)
 simp only [alloc_size6] at Y1
 have l1:=(uh Y1).lt
 have x1:=(uh X1).cell
 clear hO hl1 hf1 C1
 go_wp2_with fail
 try rw [hD]
 refine (uh C2 _ ((uh HW).below (uh B1))).mono ?_
 rintro e w2 ⟨rfl,hr⟩
 have r2:=(RE.below (uh B1) (uh HW)).trans hr
 rw [no_f3] at r2
 have R2':=hide r2
 have X2:=hide (hr.1.box (uh X1) (by omega))
 have Y2:=hide (hr.1.box (uh Y1) (by omega))
 have L2:=hide ((uh L1).stay7 (uh O1) hr.1)
 have x2:=(uh X2).cell
 clear hr r2
 go_wp2_with fail
 refine (uh C3 _ _ R1 _ ((uh R2').wst (uh HW)) (uh L2) (by omega)).mono ?_
 rintro e w3 ⟨q3,d3,L3,rfl,hq⟩
 obtain ⟨h1,h2,h3,h4⟩:=uh hq
 rw [uh HFF] at h1 h3
 have H1:=hide h1
 have H2:=hide h2
 have R3':=hide ((uh R2').trans h3)
 have Y3:=hide (h3.1.box (uh Y2) (by omega))
 have y3:=(uh Y3).cell
 have z3:=(uh Y3).frozen
 have HMr:Hid (Off (w.heap.size + 1) q3 L3.length ∧ ∀ a ∈ L3,Off (w.heap.size + 1) a.q a.d.length):=hide (h4 _ (uh Y2).lt)
 clear hq h1 h2 h3 h4 C3
 go_wp2_with fail
 have Y4:=hide ((uh Y3).set2 (.slice q3 L3.length d3) (.pointer (some ⟨g,0,none⟩)))
 refine bodyPost_ret ?_ rfl ⟨q3,d3,L3,rfl,hide ⟨uh H1,((MsIn.stay (g:=w.heap.size + 1) ⟨(uh H2).1,(uh HMr).1,(uh HMr).2,(uh H2).2.2.2⟩ ((Stay.set _ _ _ _).trans (Stay.set _ _ _ _))).sw (uh H2)),((uh R3').setNew (by omega) (by omega) _ _).setNew (by omega) (by omega) _ _⟩⟩
 simp [results,Tryz.results62,go_sem,(uh Y4).cell]
theorem cflts_any (g:Nat) (q:Option Addr) (d:Nat) (L:List FA) (num:Int) (w:World) (hw:WstE g w) (h:MsIn g w q d L) :
  Calls Tryz.prog 229 #[msV q L.length d g,.int .i64 num] w fun e w' => ∃ v,e = .returned v ∧ Hid (OwnS 84 (Value.int .u32) w w' v (floatsP (L.map FA.f) num).1 ∧ RE g (floatsP (L.map FA.f) num).2 w w'):=by
 obtain ⟨s1,s2,s3⟩:=h.small
 have C1:=hide (fun v (hv:Below w.heap.size w v) => cfixed6_any q d L num v (h.1.below hv) (by omega) (by omega))
 have HV:Hid (floatsP (L.map FA.f) num = ((listV fix1 (L.map FA.f) num).1,bad3 ((listV fix1 (L.map FA.f) num).2 != 0))):=hide rfl
 rw [uh HV]
 clear HV
 generalize listV fix1 (L.map FA.f) num = R at C1 ⊢
 obtain ⟨R1,R2⟩:=R
 simp only at C1 ⊢
 have C2:=hide (fun v (hv:WstE g v) => cnote_bad g q L.length d (R2 != 0) v hv)
 obtain ⟨D,hD⟩:∃ D,(R2 != 0) = D:=⟨_,rfl⟩
 rw [hD] at C2 ⊢
 have HW:=hide hw
 have gl:=hw.lt
 clear hw h s3
 unfold msV at C2 ⊢
 go_enter Tryz.func229,Tryz.ntmps229
 go_wp2_with fail
 refine (uh C1 _ (al1p _ _)).mono ?_
 rintro e w1 ⟨v1,rfl,hO⟩
 have B1:=hide (bl_tr (al1p w _) hO.2)
 have X1:=hide (Box.below (Box.new w #[.slice q L.length d,.pointer (some ⟨g,0,none⟩)] 58) hO.2)
 have x1:=(uh X1).cell
 have O1:=hide (ownsRow_base hO.1 (show w.heap.size ≤ _ by simp))
 clear hO C1
 go_wp2_with fail
 try rw [hD]
 refine (uh C2 _ ((uh HW).below (uh B1))).mono ?_
 rintro e w2 ⟨rfl,hr⟩
 have r2:=(RE.below (uh B1) (uh HW)).trans hr
 rw [no_f3] at r2
 have R2':=hide r2
 have O2:=hide (ownsRow_stay (uh O1) gl hr.1)
 clear hr r2
 go_wp2_with fail
 go_ret
 exact ⟨_,rfl,hide ⟨uh O2,uh R2'⟩⟩
theorem cint64_any (x:Int) (w:World):Calls Tryz.prog 234 #[.int .u64 x] w fun e w' => e = .returned (.int .i64 (i64w x)) ∧ w' = w:=by
 unfold i64w
 go_enter Tryz.func234,Tryz.ntmps234
 go_wp2_with fail
 go_ret
 exact ⟨by first | rfl | (rw [IntKind.wrap_i64]; rfl) | simp [wrap64,IntKind.wrap_i64],rfl⟩
def i64c (x:Int):List Value:=[.int .i64 x]
theorem i64Wd:Wd 1 i64c:=⟨by decide,fun _ => rfl,fun a u hu => by simp [i64c] at hu; subst hu; rfl⟩
theorem own_i64 {t:TypeId} {w w':World} {v:Value} {l:List Int} (h:OwnR t 1 i64c w w' v l):OwnG t (Value.int .i64) w w' v l:=by
 obtain ⟨h1,h2⟩:=h
 rw [show l.flatMap i64c = l.map (Value.int .i64) from flat_one _ l] at h1
 exact ⟨h1,h2⟩
theorem Tryz.infoI64d:(Tryz.prog.info? 2).map (fun i => (i.zero,i.size,i.bytes)) = some (some (.int .i64 0),1,8):=by kernel_rfl
theorem Tryz.infoIntd:(Tryz.prog.info? 3).map (fun i => (i.zero,i.size,i.bytes)) = some (some (.int .i64 0),1,8):=by kernel_rfl
theorem cchint64_any (p:Option Addr) (c:Nat) (l:List Int) (w:World) (h:Ls (Value.int .u64) w p c l) (hs:l.length ≤ 100000000) :
  Calls Tryz.prog 233 #[.slice p l.length c,.func (.func 234) #[] #[]] w fun e w' => ∃ v,e = .returned v ∧ OwnG 2 (Value.int .i64) w w' v (l.map i64w):=by
 obtain ⟨i1,hi1,y1,z1,b1⟩:=info_parts Tryz.infoI64d
 have A1:=hide h
 have HC:=hide (fun x v => cint64_any x v)
 clear h
 go_enter Tryz.func233,Tryz.ntmps233
 go_wp2_with (at_make; (refine wpList_make_full _ rfl _ _ 77 rfl w.heap.size 2 i1 (.int .i64 0) 1 Tryz.underlying77 hi1 y1 z1 _ _ _ _ l.length rfl rfl (by omega) (by omega) (by rw [b1]; omega) (by unfold maxLen; omega) (Nat.le_refl _) ?_; intro w1 hown hgrow; have HM:=hide (Mrow.made i64Wd (0:Int) rfl hown); have HB:=hide ((Below.refl w.heap.size w).grown hgrow (Nat.le_refl _) (fun k hk => by cases hk)); clear hown hgrow))
 go_loopw [13] (fun iv wr => ∃ n:Nat,iv = .int .i64 n ∧ n ≤ l.length ∧ Hid (Mrow 2 i64c wr w.heap.size ((l.take n).map i64w ++ List.replicate (l.length - n) 0)) ∧ Hid (Below w.heap.size w wr)) (fun iv _ => l.length - (intOf iv).toNat)
 case atStart => exact ⟨0,rfl,by omega,hide (by rw [List.take_zero,List.map_nil,List.nil_append]; exact uh HM),HB⟩
 case round =>
  obtain ⟨n,rfl,hn,M,B⟩:=hrel
  by_cases hlt:n < l.length
  ·have hi:(n:Int) < (l.length:Int):=by omega
   obtain ⟨b,o,rfl,hb,hc⟩:=((uh A1).below (uh B)).lies (by omega)
   have k1:wr.cell? ⟨b,o + n,none⟩ = some (.int .u64 (l.getD n 0)):=hc n hlt
   obtain ⟨m,hm⟩:∃ m,l.length - n = m + 1:=⟨l.length - n - 1,by omega⟩
   rw [hm] at M
   have tl:((l.take n).map i64w).length = n:=by rw [List.length_map,List.length_take]; omega
   have hl:((l.take n).map i64w ++ List.replicate (m + 1) (0:Int)).length = l.length:=by rw [List.length_append,tl,List.length_replicate]; omega
   have M2:=hide (Mrow.set i64Wd (uh M) (i64w (l.getD n 0)) (i:=n) (by omega))
   have e1:((l.take n).map i64w ++ List.replicate (m + 1) (0:Int)).set n (i64w (l.getD n 0)) = (l.take (n + 1)).map i64w ++ List.replicate m 0:=by
    have:=set_mid ((l.take n).map i64w) m (0:Int) (i64w (l.getD n 0))
    rw [tl] at this
    rw [this,map_take7 i64w 0 l n hlt]
   rw [e1,Nat.mul_one] at M2
   have c1:wr.cell? ⟨w.heap.size,n,none⟩ = some (.int .i64 (((l.take n).map i64w ++ List.replicate (m + 1) (0:Int)).getD n 0)):=by
    have:=Mrow.at i64Wd (z:=(0:Int)) (uh M) (i:=n) (j:=0) (by omega) rfl
    simpa using this
   have f1:=(uh M).frozen n
   have hs1:w.heap.size < wr.heap.size:=lt_of_block (uh M)
   generalize ((l.take n).map i64w ++ List.replicate (m + 1) (0:Int)).getD n 0 = c0 at c1
   have B2:=hide (setMany_below (i64c (i64w (l.getD n 0))) wr w.heap.size n (uh B) (Nat.le_refl _))
   generalize l.getD n 0 = x at k1 M2 B2
   have HX:=hide (uh HC x wr)
   generalize i64w x = X at HX M2 B2
   clear e1 hl M hc tl
   go_wp2_with fail
   refine (uh HX).mono ?_
   rintro e v ⟨rfl,hv⟩
   replace hv:=hv.symm
   subst hv
   go_wp2_with fail
   go_roundw
   case rel => exact ⟨n + 1,by go_num,by omega,by rw [show l.length - (n + 1) = m by omega]; exact M2,B2⟩
   case measure => simp [intOf]; omega
  ·have hi:¬ (n:Int) < (l.length:Int):=by omega
   rw [List.take_of_length_le (by omega),show l.length - n = 0 by omega,List.replicate_zero,List.append_nil] at M
   have HO:=hide (own_i64 (Mrow.own i64Wd (uh M) (Nat.le_refl _) (by rw [List.length_map]; unfold maxLen; omega) (uh B)))
   rw [List.length_map] at HO
   clear M
   go_wp2_with fail
   go_ret
   exact ⟨_,rfl,by first | exact uh HO | (have h:=uh HO; rw [List.map_id] at h; exact h)⟩
theorem cint_any (x:Int) (w:World):Calls Tryz.prog 182 #[.int .i64 x] w fun e w' => e = .returned (.int .i64 (id x)) ∧ w' = w:=by
 go_enter Tryz.func182,Tryz.ntmps182
 go_wp2_with fail
 go_ret
 exact ⟨rfl,rfl⟩
theorem cchint_any (p:Option Addr) (c:Nat) (l:List Int) (w:World) (h:Ls (Value.int .i64) w p c l) (hs:l.length ≤ 100000000) :
  Calls Tryz.prog 180 #[.slice p l.length c,.func (.func 182) #[] #[]] w fun e w' => ∃ v,e = .returned v ∧ OwnG 3 (Value.int .i64) w w' v (l.map id):=by
 obtain ⟨i1,hi1,y1,z1,b1⟩:=info_parts Tryz.infoIntd
 have A1:=hide h
 have HC:=hide (fun x v => cint_any x v)
 clear h
 go_enter Tryz.func180,Tryz.ntmps180
 go_wp2_with (at_make; (refine wpList_make_full _ rfl _ _ 41 rfl w.heap.size 3 i1 (.int .i64 0) 1 Tryz.underlying41 hi1 y1 z1 _ _ _ _ l.length rfl rfl (by omega) (by omega) (by rw [b1]; omega) (by unfold maxLen; omega) (Nat.le_refl _) ?_; intro w1 hown hgrow; have HM:=hide (Mrow.made i64Wd (0:Int) rfl hown); have HB:=hide ((Below.refl w.heap.size w).grown hgrow (Nat.le_refl _) (fun k hk => by cases hk)); clear hown hgrow))
 go_loopw [13] (fun iv wr => ∃ n:Nat,iv = .int .i64 n ∧ n ≤ l.length ∧ Hid (Mrow 3 i64c wr w.heap.size ((l.take n).map id ++ List.replicate (l.length - n) 0)) ∧ Hid (Below w.heap.size w wr)) (fun iv _ => l.length - (intOf iv).toNat)
 case atStart => exact ⟨0,rfl,by omega,hide (by rw [List.take_zero,List.map_nil,List.nil_append]; exact uh HM),HB⟩
 case round =>
  obtain ⟨n,rfl,hn,M,B⟩:=hrel
  by_cases hlt:n < l.length
  ·have hi:(n:Int) < (l.length:Int):=by omega
   obtain ⟨b,o,rfl,hb,hc⟩:=((uh A1).below (uh B)).lies (by omega)
   have k1:wr.cell? ⟨b,o + n,none⟩ = some (.int .i64 (l.getD n 0)):=hc n hlt
   obtain ⟨m,hm⟩:∃ m,l.length - n = m + 1:=⟨l.length - n - 1,by omega⟩
   rw [hm] at M
   have tl:((l.take n).map id).length = n:=by rw [List.length_map,List.length_take]; omega
   have hl:((l.take n).map id ++ List.replicate (m + 1) (0:Int)).length = l.length:=by rw [List.length_append,tl,List.length_replicate]; omega
   have M2:=hide (Mrow.set i64Wd (uh M) (id (l.getD n 0)) (i:=n) (by omega))
   have e1:((l.take n).map id ++ List.replicate (m + 1) (0:Int)).set n (id (l.getD n 0)) = (l.take (n + 1)).map id ++ List.replicate m 0:=by
    have:=set_mid ((l.take n).map id) m (0:Int) (id (l.getD n 0))
    rw [tl] at this
    rw [this,map_take7 id 0 l n hlt]
   rw [e1,Nat.mul_one] at M2
   have c1:wr.cell? ⟨w.heap.size,n,none⟩ = some (.int .i64 (((l.take n).map id ++ List.replicate (m + 1) (0:Int)).getD n 0)):=by
    have:=Mrow.at i64Wd (z:=(0:Int)) (uh M) (i:=n) (j:=0) (by omega) rfl
    simpa using this
   have f1:=(uh M).frozen n
   have hs1:w.heap.size < wr.heap.size:=lt_of_block (uh M)
   generalize ((l.take n).map id ++ List.replicate (m + 1) (0:Int)).getD n 0 = c0 at c1
   have B2:=hide (setMany_below (i64c (id (l.getD n 0))) wr w.heap.size n (uh B) (Nat.le_refl _))
   generalize l.getD n 0 = x at k1 M2 B2
   have HX:=hide (uh HC x wr)
   generalize id x = X at HX M2 B2
   clear e1 hl M hc tl
   go_wp2_with fail
   refine (uh HX).mono ?_
   rintro e v ⟨rfl,hv⟩
   replace hv:=hv.symm
   subst hv
   go_wp2_with fail
   go_roundw
   case rel => exact ⟨n + 1,by go_num,by omega,by rw [show l.length - (n + 1) = m by omega]; exact M2,B2⟩
   case measure => simp [intOf]; omega
  ·have hi:¬ (n:Int) < (l.length:Int):=by omega
   rw [List.take_of_length_le (by omega),show l.length - n = 0 by omega,List.replicate_zero,List.append_nil] at M
   have HO:=hide (own_i64 (Mrow.own i64Wd (uh M) (Nat.le_refl _) (by rw [List.length_map]; unfold maxLen; omega) (uh B)))
   rw [List.length_map] at HO
   clear M
   go_wp2_with fail
   go_ret
   exact ⟨_,rfl,by first | exact uh HO | (have h:=uh HO; rw [List.map_id] at h; exact h)⟩
theorem cnums_any (g:Nat) (q:Option Addr) (d:Nat) (L:List FA) (num:Int) (w:World) (hw:WstE g w) (h:MsIn g w q d L) :
  Calls Tryz.prog 181 #[msV q L.length d g,.int .i64 num] w fun e w' => ∃ v,e = .returned v ∧ Hid (OwnS 2 (Value.int .i64) w w' v (intsP (L.map FA.f) num).1 ∧ RE g (intsP (L.map FA.f) num).2 w w'):=by
 obtain ⟨s1,s2,s3⟩:=h.small
 have C1:=hide (fun v (hv:Below w.heap.size w v) => cints6_any q d L num v (h.1.below hv) (by omega) (by omega))
 have hll:=list_len7 int1_len (L:=L) (num:=num)
 have HV:Hid (intsP (L.map FA.f) num = ((listV int1 (L.map FA.f) num).1.map i64w,bad3 ((listV int1 (L.map FA.f) num).2 != 0))):=hide rfl
 rw [uh HV]
 clear HV
 generalize listV int1 (L.map FA.f) num = R at C1 hll ⊢
 obtain ⟨R1,R2⟩:=R
 simp only at C1 hll ⊢
 have C2:=hide (fun v (hv:WstE g v) => cnote_bad g q L.length d (R2 != 0) v hv)
 have C3:=hide (fun p c v hv => cchint64_any p c R1 v hv (by have:=h.2.2.2; omega))
 obtain ⟨D,hD⟩:∃ D,(R2 != 0) = D:=⟨_,rfl⟩
 rw [hD] at C2 ⊢
 have HW:=hide hw
 have gl:=hw.lt
 clear hw h s3
 unfold msV at C2 ⊢
 go_enter Tryz.func181,Tryz.ntmps181
 go_wp2_with fail
 refine (uh C1 _ (al1p _ _)).mono ?_
 rintro e w1 ⟨v1,rfl,hO⟩
 obtain ⟨q1,d1,rfl,hl1,hf1⟩:=hO.form
 have L1:=hide hl1
 have O1:Hid (Off g q1 R1.length):=hide (fun b o e hp => by have:=(hf1 b o e hp).1; simp only [alloc_size6] at this; omega)
 have B1:=hide (bl_tr (al1p w _) hO.2)
 have X1:=hide (Box.below (Box.new w #[.slice q L.length d,.pointer (some ⟨g,0,none⟩)] 58) hO.2)
 have x1:=(uh X1).cell
 clear hO hl1 hf1 C1
 go_wp2_with fail
 try rw [hD]
 refine (uh C2 _ ((uh HW).below (uh B1))).mono ?_
 rintro e w2 ⟨rfl,hr⟩
 have r2:=(RE.below (uh B1) (uh HW)).trans hr
 rw [no_f3] at r2
 have R2':=hide r2
 have L2:=hide ((uh L1).stay7 (uh O1) hr.1)
 have s2':=r2.1.1.size
 clear hr r2
 go_wp2_with fail
 refine (uh C3 _ _ _ (uh L2)).mono ?_
 rintro e w3 ⟨v3,rfl,hO⟩
 have R3':=hide ((uh R2').trans (RE.below hO.2 ((uh R2').wst (uh HW))))
 rw [f3_no] at R3'
 have O3:=hide (ownsRow_base hO.1 s2')
 clear hO
 go_wp2_with fail
 go_ret
 exact ⟨_,rfl,hide ⟨uh O3,uh R3'⟩⟩
theorem ccountm_any (g:Nat) (q:Option Addr) (n d:Nat) (p:Option Addr) (c:Nat) (ds:List Int) (w:World) (hw:WstE g w) (h:Ints .i64 w p c ds) :
  Calls Tryz.prog 183 #[msV q n d g,.slice p ds.length c] w fun e w' => e = .returned (.tuple #[.int .i64 (countV ds).1,.bool ((countV ds).2 == 0)]) ∧ RE g (dimsP ds).2 w w':=by
 have C1:=hide (fun v (hv:Below w.heap.size w v) => ccount_any p c ds v (h.below hv))
 have HV:Hid ((dimsP ds).2 = f3 (bad3 ((countV ds).2 == 1)) (big3 ((countV ds).2 == 8))):=hide rfl
 rw [uh HV]
 clear HV
 generalize countV ds = R at C1 ⊢
 obtain ⟨R1,R2⟩:=R
 simp only at C1 ⊢
 have C2:=hide (fun v (hv:WstE g v) => cnote_bad g q n d (R2 == 1) v hv)
 have C3:=hide (fun v (hv:WstE g v) => cnote_big g q n d (R2 == 8) v hv)
 obtain ⟨D1,hD1⟩:∃ D,(R2 == 1) = D:=⟨_,rfl⟩
 rw [hD1] at C2 ⊢
 obtain ⟨D2,hD2⟩:∃ D,(R2 == 8) = D:=⟨_,rfl⟩
 rw [hD2] at C3 ⊢
 have HW:=hide hw
 have gl:=hw.lt
 clear hw h
 unfold msV at C2 C3 ⊢
 go_enter Tryz.func183,Tryz.ntmps183
 go_wp2_with fail
 refine (uh C1 _ (al1p _ _)).mono ?_
 rintro e v ⟨rfl,hv⟩
 replace hv:=hv.symm
 subst hv
 go_wp2_with fail
 try rw [hD1]
 refine (uh C2 _ ((uh HW).below (al1p _ _))).mono ?_
 rintro e w2 ⟨rfl,hr⟩
 have r2:=(RE.below (al1p w _) (uh HW)).trans hr
 rw [no_f3] at r2
 have R2':=hide r2
 have x2:=(hr.1.box (Box.new w #[.slice q n d,.pointer (some ⟨g,0,none⟩)] 58) (by omega)).cell
 clear hr r2
 go_wp2_with fail
 try rw [hD2]
 refine (uh C3 _ ((uh R2').wst (uh HW))).mono ?_
 rintro e w3 ⟨rfl,hr⟩
 have R3':=hide ((uh R2').trans hr)
 clear hr
 go_wp2_with fail
 go_ret2
 exact ⟨rfl,uh R3'⟩
theorem Stay.keptT {TS:List TypeId} {B g:Nat} {w w':World} (s:Stay g w w') (hB:B ≤ g) (hw:WstE g w) (hf:¬ 53 ∈ TS):Kept TS B w w':=by
 obtain ⟨k,_,_,hk⟩:=hw
 refine ⟨s.1.size,fun b hb _ => s.1.block b (by omega),fun b cur t ht hh => ?_⟩
 have hn:b ≠ g:=fun e => by
  subst e
  unfold Wst Box at hk
  rw [hk] at hh
  simp only [Option.some.injEq,Obj.cells.injEq] at hh
  exact hf (by rw [hh.2.1]; exact ht)
 exact (s.block hn (lt_of_block hh)).trans hh
theorem Kept.setMany {TS:List TypeId} {B b off:Nat} {w:World} {cur:Array Value} {t:TypeId} (h:w.heap[b]? = some (Obj.cells cur t (0,0))) (ht:¬ t ∈ TS) (hB:B ≤ b) (us:List Value):Kept TS B w (setMany w b off us):=by
 refine ⟨Nat.le_of_eq (setMany_size us w b off).symm,fun c hc _ => setMany_other us w b off c (by omega),fun c c2 t2 ht2 hh => ?_⟩
 have hn:c ≠ b:=fun e => by
  subst e
  rw [h] at hh
  simp only [Option.some.injEq,Obj.cells.injEq] at hh
  exact ht (by rw [hh.2.1]; exact ht2)
 exact (setMany_other us w b off c hn).trans hh
theorem RE.setMany {g b:Nat} {f:F3} {w w':World} (h:RE g f w w') (hb:w.heap.size ≤ b) (hg:g < w.heap.size):∀ (us:List Value) (off:Nat),RE g f w (setMany w' b off us)
 | [],off => h
 | u :: us,off => RE.setMany (h.setNew hb hg off u) hb hg us (off + 1)
theorem Mrow.stay {β:Type} {t:TypeId} {cells:β → List Value} {g b:Nat} {w w':World} {xs:List β} (h:Mrow t cells w b xs) (s:Stay g w w') (hb:b ≠ g):Mrow t cells w' b xs:=(s.block hb (lt_of_block h)).trans h
theorem Mrow.rc {β:Type} {k:Nat} {cells:β → List Value} {z:β} {t:TypeId} {w:World} {b:Nat} {xs:List β} (hk:Wd k cells) (h:Mrow t cells w b xs) (hl:xs.length ≤ 9223372036854775807):Rc k cells z w (some ⟨b,0,none⟩) xs.length xs :=
 ⟨Nat.le_refl _,hl,fun _ => ⟨b,0,rfl,lt_of_block h,fun i hi j u hu => by rw [Nat.zero_add]; exact h.at hk hi hu⟩,fun h => by cases h⟩
theorem Mrow.tag {β:Type} {cells:β → List Value} {t:TypeId} {B:Nat} {w:World} {b n:Nat} {xs:List β} (h:Mrow t cells w b xs):Tag t B w (some ⟨b,0,none⟩) n:=fun _ => ⟨b,0,rfl,lt_of_block h,.inr ⟨_,h⟩⟩
theorem getD_app {α:Type} (ys:List α) (x z:α) (i:Nat):(ys ++ [x]).getD i z = if i = ys.length then x else ys.getD i z:=by
 rw [List.getD_eq_getElem?_getD,List.getD_eq_getElem?_getD]
 rcases Nat.lt_trichotomy i ys.length with h | h | h
 ·rw [List.getElem?_append_left h,if_neg (by omega)]
 ·subst h; simp
 ·rw [if_neg (by omega),List.getElem?_eq_none (by simp; omega),List.getElem?_eq_none (by omega)]
theorem getD_rep {α:Type} (ys:List α) (m:Nat) (z:α):(ys ++ List.replicate (m + 1) z).getD ys.length z = z:=by
 rw [List.getD_eq_getElem?_getD,List.getElem?_append_right (Nat.le_refl _),Nat.sub_self]; rfl
def Rl {β:Type} (z:β) (R:FA → β → Prop) (L:List FA) (xs:List β):Prop:=xs.length = L.length ∧ ∀ i,i < L.length → R (L.getD i noFA) (xs.getD i z)
def Made {β:Type} (XI:World → β → Prop) (val:β → Value) (g:Nat) (R:β → Prop) (F:F3) (w:World) (e:Ending) (w':World):Prop:=∃ x,e = .returned (val x) ∧ Hid (R x ∧ XI w' x ∧ RE g F w w')
structure SeA where
 nm:Str
 v:Int
def noSeA:SeA:=⟨[],0⟩
def setC (x:SeA):List Value:=[strV x.nm,.int .i64 x.v]
theorem setWd:Wd 2 setC:=⟨by decide,fun _ => rfl,fun a u hu => by simp [setC] at hu; rcases hu with rfl | rfl <;> rfl⟩
def strC (x:Str):List Value:=[strV x]
theorem strWd:Wd 1 strC:=⟨by decide,fun _ => rfl,fun a u hu => by simp [strC] at hu; subst hu; rfl⟩
theorem Tryz.infoESet:(Tryz.prog.info? 117).map (fun i => (i.zero,i.size,i.bytes)) = some (some (.agg #[.string { data:=#[] },.int .i64 0]),2,24):=by kernel_rfl
theorem cchSet_any (g:Nat) (K:FuncId) (hK:Ent K) (caps:Array Value) (R:FA → SeA → Prop) (F:FA → F3) (q:Option Addr) (d:Nat) (L:List FA) (w:World) (hw:WstE g w) (h:MsIn g w q d L)
  (H:∀ v,Stay g w v → WstE g v → ∀ a ∈ L,FaIn v a → Off g a.q a.d.length → Calls Tryz.prog K (#[faV a] ++ caps) v fun e w' => Made (fun w x => isB x.nm) (fun x => .agg (setC x).toArray) g (R a) (F a) v e w') :
  Calls Tryz.prog 168 #[.slice q L.length d,.func (.func K) #[] caps] w fun e w' => ∃ b xs,e = .returned (.slice (some ⟨b,0,none⟩) xs.length xs.length) ∧ Hid (Rl noSeA R L xs ∧ (∀ x ∈ xs,isB x.nm) ∧ Mrow 117 setC w' b xs ∧ w.heap.size ≤ b ∧ RE g (fAll (L.map F)) w w'):=by
 obtain ⟨i1,hi1,y1,z1,b1⟩:=info_parts Tryz.infoESet
 have hk:∀ (args:Array Value) (v:World),(callFunc K args).run Tryz.prog v = .ok (.enter K args) v:=hK
 have A1:=hide h
 have HH:=hide H
 obtain ⟨s1,_,_⟩:=h.small
 have HW:=hide hw
 have gl:=hw.lt
 clear h H hK hw
 go_enter Tryz.func168,Tryz.ntmps168
 go_wp2_with (at_make; (refine wpList_make_full _ rfl _ _ 114 rfl w.heap.size 117 i1 _ 2 Tryz.underlying114 hi1 y1 z1 _ _ _ _ L.length rfl rfl (by omega) (by omega) (by rw [b1]; omega) (by unfold maxLen; omega) (Nat.le_refl _) ?_; intro w0 hown hgrow; have HM:=hide (Mrow.made setWd noSeA rfl hown); have HB:=hide ((Below.refl w.heap.size w).grown hgrow (Nat.le_refl _) (fun k hk => by cases hk)); clear hown hgrow))
 go_loopw [13] (fun iv wr => ∃ n:Nat,∃ ys:List SeA,iv = .int .i64 n ∧ n ≤ L.length ∧ Hid (ys.length = n ∧ (∀ i,i < n → R (L.getD i noFA) (ys.getD i noSeA)) ∧ (∀ x ∈ ys,isB x.nm) ∧ Mrow 117 setC wr w.heap.size (ys ++ List.replicate (L.length - n) noSeA) ∧ RE g (fAll ((L.take n).map F)) w wr)) (fun iv _ => L.length - (intOf iv).toNat)
 case atStart => exact ⟨0,[],rfl,by omega,hide ⟨rfl,(fun i hi => by omega),(fun x hx => by cases hx),(by rw [List.nil_append]; exact uh HM),RE.below (uh HB) (uh HW)⟩⟩
 case round =>
  obtain ⟨n,ys,rfl,hn,HI⟩:=hrel
  obtain ⟨p1,p2,p3,p4,p5⟩:=uh HI
  have P2:=hide p2
  have P3:=hide p3
  have P4:=hide p4
  have P5:=hide p5
  have hsz:=lt_of_block p4
  clear HI p2 p3 p4 p5
  by_cases hlt:n < L.length
  ·have hi:(n:Int) < (L.length:Int):=by omega
   have MA:=hide ((uh A1).stay (uh P5).1)
   obtain ⟨b,o,rfl,hb,k0,k1,k2,k3⟩:=(uh MA).1.1.at hlt
   have hmem:=getD_memF hlt
   have HX:=hide (fun o => uh HH (wr.alloc o) ((uh P5).1.trans (Stay.below (al1p wr o) (by omega))) (((uh P5).wst (uh HW)).below (al1p wr o)) (L.getD n noFA) hmem (((uh MA).1.2 _ hmem).below (al1p wr o)) ((uh MA).2.2.1 _ hmem))
   have HT:=hide (map_take7 F noFA L n hlt)
   have P2':=hide (fun (x:SeA) (hx:R (L.getD n noFA) x) (i:Nat) (hi:i < n + 1) => ((if e:i = n then (by rw [getD_app,p1,if_pos e,e]; exact hx) else (by rw [getD_app,p1,if_neg e]; exact uh P2 i (by omega))):R (L.getD i noFA) ((ys ++ [x]).getD i noSeA)))
   generalize F (L.getD n noFA) = FX at HX HT
   generalize L.getD n noFA = a at k0 k1 k2 k3 HX P2'
   obtain ⟨an,awr,ax,ad,aq,ac⟩:=a
   unfold faV at HX
   simp only at k0 k1 k2 k3 HX
   clear hmem
   go_wp2_with fail
   refine (uh HX _).mono ?_
   rintro e w1 ⟨x,rfl,hq⟩
   obtain ⟨g1,g2,g3⟩:=uh hq
   have G1:=hide (uh P2' x g1)
   obtain ⟨m,hm⟩:∃ m,L.length - n = m + 1:=⟨L.length - n - 1,by omega⟩
   rw [hm] at P4
   have hne:¬ w.heap.size = g:=by omega
   have M1:=hide (((uh P4).below (al1p wr _)).stay g3.1 hne)
   have hl:(ys ++ List.replicate (m + 1) noSeA).length = L.length:=by rw [List.length_append,p1,List.length_replicate]; omega
   have HZ:Hid ((ys ++ List.replicate (m + 1) noSeA).getD n noSeA = noSeA):=hide (by rw [← p1]; exact getD_rep ys m noSeA)
   have s1':w.heap.size < w1.heap.size:=lt_of_block (uh M1)
   have c0:w1.cell? ⟨w.heap.size,n * 2,none⟩ = some (.string { data:=#[] }):=by
    have:=Mrow.at setWd (z:=noSeA) (uh M1) (i:=n) (j:=0) (u:=.string { data:=#[] }) (by omega) (by rw [uh HZ]; rfl)
    exact this
   have c1:w1.cell? ⟨w.heap.size,n * 2 + 1,none⟩ = some (.int .i64 0):=by
    have:=Mrow.at setWd (z:=noSeA) (uh M1) (i:=n) (j:=1) (u:=.int .i64 0) (by omega) (by rw [uh HZ]; rfl)
    exact this
   have f1:=(uh M1).frozen
   have M2:=hide (Mrow.set setWd (uh M1) x (i:=n) (by omega))
   have e1:(ys ++ List.replicate (m + 1) noSeA).set n x = (ys ++ [x]) ++ List.replicate m noSeA:=by rw [← p1]; exact set_mid ys m noSeA x
   rw [e1] at M2
   have R1:=hide ((((uh P5).trans (RE.below (al1p wr _) ((uh P5).wst (uh HW)))).trans g3).setMany (Nat.le_refl _) gl (setC x) (n * 2))
   rw [f3_no] at R1
   have X1:Hid (∀ y ∈ ys ++ [x],isB y.nm):=hide (fun y hy => by
    have kk:Kept [] 0 w1 (setMany w1 w.heap.size (n * 2) (setC x)):=Kept.setMany (uh M1) (by decide) (by omega) _
    rcases List.mem_append.1 hy with hy | hy
    ·exact (uh P3 y hy)
    ·simp at hy; subst hy
     exact g2)
   have RF:Hid (fAll ((L.take (n + 1)).map F) = f3 (fAll ((L.take n).map F)) FX):=hide (by rw [uh HT,fAll_append]; simp [fAll,no_f3])
   rw [← uh RF] at R1
   have hyl:(ys ++ [x]).length = n + 1:=by rw [List.length_append,p1]; rfl
   clear hq g1 g2 g3 e1 HT HX P2' P2 P3 P4 P5 RF hl M1 HZ
   try simp only [Nat.mul_one] at M2 R1 X1
   unfold setC strV at M2 R1 ⊢
   go_wp2_with fail
   go_roundw
   case rel => exact ⟨n + 1,ys ++ [x],by go_num,by omega,hide ⟨hyl,uh G1,uh X1,by rw [show L.length - (n + 1) = m by omega]; exact uh M2,uh R1⟩⟩
   case measure => simp [intOf]; omega
  ·have hi:¬ (n:Int) < (L.length:Int):=by omega
   have en:n = L.length:=by omega
   subst en
   rw [Nat.sub_self,List.replicate_zero,List.append_nil] at P4
   rw [List.take_of_length_le (Nat.le_refl _)] at P5
   have HE:=hide p1
   clear p1
   go_wp2_with fail
   go_ret
   exact ⟨w.heap.size,ys,by rw [uh HE]; rfl,hide ⟨⟨uh HE,uh P2⟩,uh P3,uh P4,Nat.le_refl _,uh P5⟩⟩
theorem wst_ne {g k:Nat} {w:World} {cs:Array Value} {t:TypeId} (hw:WstE g w) (h:Box w k cs t) (ht:t ≠ 53):k ≠ g:=fun e => by
 subst e
 obtain ⟨j,_,_,hj⟩:=hw
 unfold Wst at hj
 unfold Box at h hj
 rw [h] at hj
 simp only [Option.some.injEq,Obj.cells.injEq] at hj
 exact ht hj.2.1
def dsV (l:List Fld) (num:Int):List (List Int):=(allV l num).map fun f => f.2.2.2
def Rb {β:Type} (z:β) (R:List Int → β → Prop) (ds:List (List Int)) (xs:List β):Prop:=xs.length = ds.length ∧ ∀ i,i < ds.length → R (ds.getD i []) (xs.getD i z)
theorem allA_map (L:List FA) (num:Int):(allA L num).map FA.f = allV (L.map FA.f) num:=by
 unfold allA allV
 rw [List.filter_map]; rfl
theorem all_sum {L LA:List FA} {num:Int} (h:sumD L + L.length ≤ 4194304) (hL:LA.map FA.f = (allA L num).map FA.f):sumD LA + LA.length ≤ 4194304:=by
 have e1:sumD LA = sumD (allA L num):=by
  have h1:(LA.map FA.f).map (fun f => f.2.2.2.length) = ((allA L num).map FA.f).map (fun f => f.2.2.2.length):=by rw [hL]
  rw [List.map_map,List.map_map] at h1
  unfold sumD
  exact congrArg List.sum h1
 have e2:LA.length = (allA L num).length:=by
  have:=congrArg List.length hL
  rwa [List.length_map,List.length_map] at this
 have e3:=sumD_all L num
 have e4:(allA L num).length ≤ L.length:=by unfold allA; exact List.length_filter_le _ _
 omega
theorem getD_map7 {α β:Type} (f:α → β) (z:α) (l:List α) (i:Nat) (h:i < l.length) (y:β):(l.map f).getD i y = f (l.getD i z):=by
 rw [List.getD_eq_getElem?_getD,List.getD_eq_getElem?_getD,List.getElem?_map,List.getElem?_eq_getElem h]; rfl
theorem rows_end {β:Type} {z:β} {R:List Int → β → Prop} {L LA:List FA} {num:Int} {xs:List β} (hL:LA.map FA.f = (allA L num).map FA.f) (h:Rl z (fun a x => R a.d x) LA xs):Rb z R (dsV (L.map FA.f) num) xs:=by
 have e:dsV (L.map FA.f) num = LA.map (fun a => a.d):=by
  unfold dsV
  rw [← allA_map,← hL,List.map_map]; rfl
 rw [e]
 refine ⟨by rw [List.length_map]; exact h.1,fun i hi => ?_⟩
 rw [List.length_map] at hi
 rw [getD_map7 (fun a:FA => a.d) noFA LA i hi]
 exact h.2 i hi
theorem fAll_map2 {α:Type} (A B:α → F3):∀ l:List α,lev (fAll (l.map fun a => f3 (A a) (B a))) = max (lev (fAll (l.map A))) (lev (fAll (l.map B)))
 | [] => rfl
 | x :: r => by
   rw [List.map_cons,List.map_cons,List.map_cons,fAll_cons,fAll_cons,fAll_cons,lev_f3,lev_f3,lev_f3,lev_f3,fAll_map2 A B r]
   omega
theorem fAll_bad {α:Type} (p:α → Bool):∀ l:List α,fAll (l.map fun a => bad3 (p a)) = bad3 (l.any p)
 | [] => rfl
 | x :: r => by
   rw [List.map_cons,fAll_cons,fAll_bad p r,List.any_cons]; simp [f3,bad3]
theorem rows_lev {L LA:List FA} {num:Int} (hL:LA.map FA.f = (allA L num).map FA.f) (F:List Int → F3):lev (f3 no3 (fAll (LA.map fun a => f3 (bad3 (a.wr != 2)) (F a.d)))) = lev (f3 (bad3 ((allV (L.map FA.f) num).any fun f => f.2.1 != 2)) (fAll ((dsV (L.map FA.f) num).map F))):=by
 rw [no_f3,fAll_map2 (fun a:FA => bad3 (a.wr != 2)) (fun a => F a.d),fAll_bad,lev_f3]
 have e1:dsV (L.map FA.f) num = LA.map (fun a => a.d):=by
  unfold dsV
  rw [← allA_map,← hL,List.map_map]; rfl
 have e2:((allV (L.map FA.f) num).any fun f => f.2.1 != 2) = LA.any (fun a => a.wr != 2):=by
  rw [← allA_map,← hL,List.any_map]; rfl
 rw [e1,e2,List.map_map]
 rfl
theorem Tryz.infoEInt:(Tryz.prog.info? 3).map (fun i => (i.zero,i.size,i.bytes)) = some (some (.int .i64 0),1,8):=by kernel_rfl
theorem cchInt_any (g:Nat) (K:FuncId) (hK:Ent K) (caps:Array Value) (R:FA → Int → Prop) (F:FA → F3) (q:Option Addr) (d:Nat) (L:List FA) (w:World) (hw:WstE g w) (h:MsIn g w q d L)
  (H:∀ v,Stay g w v → WstE g v → ∀ a ∈ L,FaIn v a → Off g a.q a.d.length → Calls Tryz.prog K (#[faV a] ++ caps) v fun e w' => Made (fun w x => (Lit.int .i64 x).wf = true) (fun x => .int .i64 x) g (R a) (F a) v e w') :
  Calls Tryz.prog 258 #[.slice q L.length d,.func (.func K) #[] caps] w fun e w' => ∃ b xs,e = .returned (.slice (some ⟨b,0,none⟩) xs.length xs.length) ∧ Hid (Rl (0:Int) R L xs ∧ (∀ x ∈ xs,(Lit.int .i64 x).wf = true) ∧ Mrow 3 i64c w' b xs ∧ w.heap.size ≤ b ∧ RE g (fAll (L.map F)) w w'):=by
 obtain ⟨i1,hi1,y1,z1,b1⟩:=info_parts Tryz.infoEInt
 have hk:∀ (args:Array Value) (v:World),(callFunc K args).run Tryz.prog v = .ok (.enter K args) v:=hK
 have A1:=hide h
 have HH:=hide H
 obtain ⟨s1,_,_⟩:=h.small
 have HW:=hide hw
 have gl:=hw.lt
 clear h H hK hw
 go_enter Tryz.func258,Tryz.ntmps258
 go_wp2_with (at_make; (refine wpList_make_full _ rfl _ _ 41 rfl w.heap.size 3 i1 _ 1 Tryz.underlying41 hi1 y1 z1 _ _ _ _ L.length rfl rfl (by omega) (by omega) (by rw [b1]; omega) (by unfold maxLen; omega) (Nat.le_refl _) ?_; intro w0 hown hgrow; have HM:=hide (Mrow.made i64Wd (0:Int) rfl hown); have HB:=hide ((Below.refl w.heap.size w).grown hgrow (Nat.le_refl _) (fun k hk => by cases hk)); clear hown hgrow))
 go_loopw [13] (fun iv wr => ∃ n:Nat,∃ ys:List Int,iv = .int .i64 n ∧ n ≤ L.length ∧ Hid (ys.length = n ∧ (∀ i,i < n → R (L.getD i noFA) (ys.getD i (0:Int))) ∧ (∀ x ∈ ys,(Lit.int .i64 x).wf = true) ∧ Mrow 3 i64c wr w.heap.size (ys ++ List.replicate (L.length - n) (0:Int)) ∧ RE g (fAll ((L.take n).map F)) w wr)) (fun iv _ => L.length - (intOf iv).toNat)
 case atStart => exact ⟨0,[],rfl,by omega,hide ⟨rfl,(fun i hi => by omega),(fun x hx => by cases hx),(by rw [List.nil_append]; exact uh HM),RE.below (uh HB) (uh HW)⟩⟩
 case round =>
  obtain ⟨n,ys,rfl,hn,HI⟩:=hrel
  obtain ⟨p1,p2,p3,p4,p5⟩:=uh HI
  have P2:=hide p2
  have P3:=hide p3
  have P4:=hide p4
  have P5:=hide p5
  have hsz:=lt_of_block p4
  clear HI p2 p3 p4 p5
  by_cases hlt:n < L.length
  ·have hi:(n:Int) < (L.length:Int):=by omega
   have MA:=hide ((uh A1).stay (uh P5).1)
   obtain ⟨b,o,rfl,hb,k0,k1,k2,k3⟩:=(uh MA).1.1.at hlt
   have hmem:=getD_memF hlt
   have HX:=hide (fun o => uh HH (wr.alloc o) ((uh P5).1.trans (Stay.below (al1p wr o) (by omega))) (((uh P5).wst (uh HW)).below (al1p wr o)) (L.getD n noFA) hmem (((uh MA).1.2 _ hmem).below (al1p wr o)) ((uh MA).2.2.1 _ hmem))
   have HT:=hide (map_take7 F noFA L n hlt)
   have P2':=hide (fun (x:Int) (hx:R (L.getD n noFA) x) (i:Nat) (hi:i < n + 1) => ((if e:i = n then (by rw [getD_app,p1,if_pos e,e]; exact hx) else (by rw [getD_app,p1,if_neg e]; exact uh P2 i (by omega))):R (L.getD i noFA) ((ys ++ [x]).getD i (0:Int))))
   generalize F (L.getD n noFA) = FX at HX HT
   generalize L.getD n noFA = a at k0 k1 k2 k3 HX P2'
   obtain ⟨an,awr,ax,ad,aq,ac⟩:=a
   unfold faV at HX
   simp only at k0 k1 k2 k3 HX
   clear hmem
   go_wp2_with fail
   refine (uh HX _).mono ?_
   rintro e w1 ⟨x,rfl,hq⟩
   obtain ⟨g1,g2,g3⟩:=uh hq
   have G1:=hide (uh P2' x g1)
   obtain ⟨m,hm⟩:∃ m,L.length - n = m + 1:=⟨L.length - n - 1,by omega⟩
   rw [hm] at P4
   have hne:¬ w.heap.size = g:=by omega
   have M1:=hide (((uh P4).below (al1p wr _)).stay g3.1 hne)
   have hl:(ys ++ List.replicate (m + 1) (0:Int)).length = L.length:=by rw [List.length_append,p1,List.length_replicate]; omega
   have HZ:Hid ((ys ++ List.replicate (m + 1) (0:Int)).getD n (0:Int) = (0:Int)):=hide (by rw [← p1]; exact getD_rep ys m (0:Int))
   have s1':w.heap.size < w1.heap.size:=lt_of_block (uh M1)
   have c0:w1.cell? ⟨w.heap.size,n,none⟩ = some (.int .i64 0):=by
    have:=Mrow.at i64Wd (z:=(0:Int)) (uh M1) (i:=n) (j:=0) (u:=.int .i64 0) (by omega) (by rw [uh HZ]; rfl)
    rw [Nat.mul_one] at this; exact this
   have f1:=(uh M1).frozen
   have M2:=hide (Mrow.set i64Wd (uh M1) x (i:=n) (by omega))
   have e1:(ys ++ List.replicate (m + 1) (0:Int)).set n x = (ys ++ [x]) ++ List.replicate m (0:Int):=by rw [← p1]; exact set_mid ys m (0:Int) x
   rw [e1] at M2
   have R1:=hide ((((uh P5).trans (RE.below (al1p wr _) ((uh P5).wst (uh HW)))).trans g3).setMany (Nat.le_refl _) gl (i64c x) (n * 1))
   rw [f3_no] at R1
   have X1:Hid (∀ y ∈ ys ++ [x],(Lit.int .i64 y).wf = true):=hide (fun y hy => by
    have kk:Kept [] 0 w1 (setMany w1 w.heap.size (n * 1) (i64c x)):=Kept.setMany (uh M1) (by decide) (by omega) _
    rcases List.mem_append.1 hy with hy | hy
    ·exact (uh P3 y hy)
    ·simp at hy; subst hy
     exact g2)
   have RF:Hid (fAll ((L.take (n + 1)).map F) = f3 (fAll ((L.take n).map F)) FX):=hide (by rw [uh HT,fAll_append]; simp [fAll,no_f3])
   rw [← uh RF] at R1
   have hyl:(ys ++ [x]).length = n + 1:=by rw [List.length_append,p1]; rfl
   clear hq g1 g2 g3 e1 HT HX P2' P2 P3 P4 P5 RF hl M1 HZ
   try simp only [Nat.mul_one] at M2 R1 X1
   unfold i64c at M2 R1
   go_wp2_with fail
   go_roundw
   case rel => exact ⟨n + 1,ys ++ [x],by go_num,by omega,hide ⟨hyl,uh G1,uh X1,by rw [show L.length - (n + 1) = m by omega]; exact uh M2,uh R1⟩⟩
   case measure => simp [intOf]; omega
  ·have hi:¬ (n:Int) < (L.length:Int):=by omega
   have en:n = L.length:=by omega
   subst en
   rw [Nat.sub_self,List.replicate_zero,List.append_nil] at P4
   rw [List.take_of_length_le (Nat.le_refl _)] at P5
   have HE:=hide p1
   clear p1
   go_wp2_with fail
   go_ret
   exact ⟨w.heap.size,ys,by rw [uh HE]; rfl,hide ⟨⟨uh HE,uh P2⟩,uh P3,uh P4,Nat.le_refl _,uh P5⟩⟩
theorem Tryz.infoEAttr:(Tryz.prog.info? 86).map (fun i => (i.zero,i.size,i.bytes)) = some (some (.agg #[.string { data:=#[] },.int .i64 0,.int .u32 0,.int .i64 0,.string { data:=#[] },.int .i64 0,.slice none 0 0,.slice none 0 0,.slice none 0 0,.slice none 0 0,.slice none 0 0,.slice none 0 0]),12,208):=by kernel_rfl
theorem cchAttr_any (g:Nat) (K:FuncId) (hK:Ent K) (caps:Array Value) (R:FA → AtA → Prop) (F:FA → F3) (q:Option Addr) (d:Nat) (L:List FA) (w:World) (hw:WstE g w) (h:MsIn g w q d L)
  (H:∀ v,Stay g w v → WstE g v → ∀ a ∈ L,FaIn v a → Off g a.q a.d.length → Calls Tryz.prog K (#[faV a] ++ caps) v fun e w' => Made (fun w x => AtIn 0 w x) (fun x => .agg (atCells x).toArray) g (R a) (F a) v e w') :
  Calls Tryz.prog 249 #[.slice q L.length d,.func (.func K) #[] caps] w fun e w' => ∃ b xs,e = .returned (.slice (some ⟨b,0,none⟩) xs.length xs.length) ∧ Hid (Rl noAtA R L xs ∧ (∀ x ∈ xs,AtIn 0 w' x) ∧ Mrow 86 atCells w' b xs ∧ w.heap.size ≤ b ∧ RE g (fAll (L.map F)) w w'):=by
 obtain ⟨i1,hi1,y1,z1,b1⟩:=info_parts Tryz.infoEAttr
 have hk:∀ (args:Array Value) (v:World),(callFunc K args).run Tryz.prog v = .ok (.enter K args) v:=hK
 have A1:=hide h
 have HH:=hide H
 obtain ⟨s1,_,_⟩:=h.small
 have HW:=hide hw
 have gl:=hw.lt
 clear h H hK hw
 go_enter Tryz.func249,Tryz.ntmps249
 go_wp2_with (at_make; (refine wpList_make_full _ rfl _ _ 73 rfl w.heap.size 86 i1 _ 12 Tryz.underlying73 hi1 y1 z1 _ _ _ _ L.length rfl rfl (by omega) (by omega) (by rw [b1]; omega) (by unfold maxLen; omega) (Nat.le_refl _) ?_; intro w0 hown hgrow; have HM:=hide (Mrow.made atWd noAtA rfl hown); have HB:=hide ((Below.refl w.heap.size w).grown hgrow (Nat.le_refl _) (fun k hk => by cases hk)); clear hown hgrow))
 go_loopw [13] (fun iv wr => ∃ n:Nat,∃ ys:List AtA,iv = .int .i64 n ∧ n ≤ L.length ∧ Hid (ys.length = n ∧ (∀ i,i < n → R (L.getD i noFA) (ys.getD i noAtA)) ∧ (∀ x ∈ ys,AtIn 0 wr x) ∧ Mrow 86 atCells wr w.heap.size (ys ++ List.replicate (L.length - n) noAtA) ∧ RE g (fAll ((L.take n).map F)) w wr)) (fun iv _ => L.length - (intOf iv).toNat)
 case atStart => exact ⟨0,[],rfl,by omega,hide ⟨rfl,(fun i hi => by omega),(fun x hx => by cases hx),(by rw [List.nil_append]; exact uh HM),RE.below (uh HB) (uh HW)⟩⟩
 case round =>
  obtain ⟨n,ys,rfl,hn,HI⟩:=hrel
  obtain ⟨p1,p2,p3,p4,p5⟩:=uh HI
  have P2:=hide p2
  have P3:=hide p3
  have P4:=hide p4
  have P5:=hide p5
  have hsz:=lt_of_block p4
  clear HI p2 p3 p4 p5
  by_cases hlt:n < L.length
  ·have hi:(n:Int) < (L.length:Int):=by omega
   have MA:=hide ((uh A1).stay (uh P5).1)
   obtain ⟨b,o,rfl,hb,k0,k1,k2,k3⟩:=(uh MA).1.1.at hlt
   have hmem:=getD_memF hlt
   have HX:=hide (fun o => uh HH (wr.alloc o) ((uh P5).1.trans (Stay.below (al1p wr o) (by omega))) (((uh P5).wst (uh HW)).below (al1p wr o)) (L.getD n noFA) hmem (((uh MA).1.2 _ hmem).below (al1p wr o)) ((uh MA).2.2.1 _ hmem))
   have HT:=hide (map_take7 F noFA L n hlt)
   have P2':=hide (fun (x:AtA) (hx:R (L.getD n noFA) x) (i:Nat) (hi:i < n + 1) => ((if e:i = n then (by rw [getD_app,p1,if_pos e,e]; exact hx) else (by rw [getD_app,p1,if_neg e]; exact uh P2 i (by omega))):R (L.getD i noFA) ((ys ++ [x]).getD i noAtA)))
   generalize F (L.getD n noFA) = FX at HX HT
   generalize L.getD n noFA = a at k0 k1 k2 k3 HX P2'
   obtain ⟨an,awr,ax,ad,aq,ac⟩:=a
   unfold faV at HX
   simp only at k0 k1 k2 k3 HX
   clear hmem
   go_wp2_with fail
   refine (uh HX _).mono ?_
   rintro e w1 ⟨x,rfl,hq⟩
   obtain ⟨g1,g2,g3⟩:=uh hq
   have G1:=hide (uh P2' x g1)
   obtain ⟨m,hm⟩:∃ m,L.length - n = m + 1:=⟨L.length - n - 1,by omega⟩
   rw [hm] at P4
   have hne:¬ w.heap.size = g:=by omega
   have M1:=hide (((uh P4).below (al1p wr _)).stay g3.1 hne)
   have hl:(ys ++ List.replicate (m + 1) noAtA).length = L.length:=by rw [List.length_append,p1,List.length_replicate]; omega
   have HZ:Hid ((ys ++ List.replicate (m + 1) noAtA).getD n noAtA = noAtA):=hide (by rw [← p1]; exact getD_rep ys m noAtA)
   have s1':w.heap.size < w1.heap.size:=lt_of_block (uh M1)
   have c0:w1.cell? ⟨w.heap.size,n * 12,none⟩ = some (.string { data:=#[] }):=by
    have:=Mrow.at atWd (z:=noAtA) (uh M1) (i:=n) (j:=0) (u:=.string { data:=#[] }) (by omega) (by rw [uh HZ]; rfl)
    exact this
   have c1:w1.cell? ⟨w.heap.size,n * 12 + 1,none⟩ = some (.int .i64 0):=by
    have:=Mrow.at atWd (z:=noAtA) (uh M1) (i:=n) (j:=1) (u:=.int .i64 0) (by omega) (by rw [uh HZ]; rfl)
    exact this
   have c2:w1.cell? ⟨w.heap.size,n * 12 + 2,none⟩ = some (.int .u32 0):=by
    have:=Mrow.at atWd (z:=noAtA) (uh M1) (i:=n) (j:=2) (u:=.int .u32 0) (by omega) (by rw [uh HZ]; rfl)
    exact this
   have c3:w1.cell? ⟨w.heap.size,n * 12 + 3,none⟩ = some (.int .i64 0):=by
    have:=Mrow.at atWd (z:=noAtA) (uh M1) (i:=n) (j:=3) (u:=.int .i64 0) (by omega) (by rw [uh HZ]; rfl)
    exact this
   have c4:w1.cell? ⟨w.heap.size,n * 12 + 4,none⟩ = some (.string { data:=#[] }):=by
    have:=Mrow.at atWd (z:=noAtA) (uh M1) (i:=n) (j:=4) (u:=.string { data:=#[] }) (by omega) (by rw [uh HZ]; rfl)
    exact this
   have c5:w1.cell? ⟨w.heap.size,n * 12 + 5,none⟩ = some (.int .i64 0):=by
    have:=Mrow.at atWd (z:=noAtA) (uh M1) (i:=n) (j:=5) (u:=.int .i64 0) (by omega) (by rw [uh HZ]; rfl)
    exact this
   have c6:w1.cell? ⟨w.heap.size,n * 12 + 6,none⟩ = some (.slice none 0 0):=by
    have:=Mrow.at atWd (z:=noAtA) (uh M1) (i:=n) (j:=6) (u:=.slice none 0 0) (by omega) (by rw [uh HZ]; rfl)
    exact this
   have c7:w1.cell? ⟨w.heap.size,n * 12 + 7,none⟩ = some (.slice none 0 0):=by
    have:=Mrow.at atWd (z:=noAtA) (uh M1) (i:=n) (j:=7) (u:=.slice none 0 0) (by omega) (by rw [uh HZ]; rfl)
    exact this
   have c8:w1.cell? ⟨w.heap.size,n * 12 + 8,none⟩ = some (.slice none 0 0):=by
    have:=Mrow.at atWd (z:=noAtA) (uh M1) (i:=n) (j:=8) (u:=.slice none 0 0) (by omega) (by rw [uh HZ]; rfl)
    exact this
   have c9:w1.cell? ⟨w.heap.size,n * 12 + 9,none⟩ = some (.slice none 0 0):=by
    have:=Mrow.at atWd (z:=noAtA) (uh M1) (i:=n) (j:=9) (u:=.slice none 0 0) (by omega) (by rw [uh HZ]; rfl)
    exact this
   have c10:w1.cell? ⟨w.heap.size,n * 12 + 10,none⟩ = some (.slice none 0 0):=by
    have:=Mrow.at atWd (z:=noAtA) (uh M1) (i:=n) (j:=10) (u:=.slice none 0 0) (by omega) (by rw [uh HZ]; rfl)
    exact this
   have c11:w1.cell? ⟨w.heap.size,n * 12 + 11,none⟩ = some (.slice none 0 0):=by
    have:=Mrow.at atWd (z:=noAtA) (uh M1) (i:=n) (j:=11) (u:=.slice none 0 0) (by omega) (by rw [uh HZ]; rfl)
    exact this
   have f1:=(uh M1).frozen
   have M2:=hide (Mrow.set atWd (uh M1) x (i:=n) (by omega))
   have e1:(ys ++ List.replicate (m + 1) noAtA).set n x = (ys ++ [x]) ++ List.replicate m noAtA:=by rw [← p1]; exact set_mid ys m noAtA x
   rw [e1] at M2
   have R1:=hide ((((uh P5).trans (RE.below (al1p wr _) ((uh P5).wst (uh HW)))).trans g3).setMany (Nat.le_refl _) gl (atCells x) (n * 12))
   rw [f3_no] at R1
   have X1:Hid (∀ y ∈ ys ++ [x],AtIn 0 (setMany w1 w.heap.size (n * 12) (atCells x)) y):=hide (fun y hy => by
    have kk:Kept tenTS 0 w1 (setMany w1 w.heap.size (n * 12) (atCells x)):=Kept.setMany (uh M1) (by decide) (by omega) _
    rcases List.mem_append.1 hy with hy | hy
    ·exact (uh P3 y hy).kept (fun _ h => h) (((Kept.below (TS:=tenTS) (B:=0) (al1p wr _)).trans (g3.1.keptT (Nat.zero_le _) (((uh P5).wst (uh HW)).below (al1p wr _)) (by decide))).trans kk)
    ·simp at hy; subst hy
     exact g2.kept (fun _ h => h) (kk))
   have RF:Hid (fAll ((L.take (n + 1)).map F) = f3 (fAll ((L.take n).map F)) FX):=hide (by rw [uh HT,fAll_append]; simp [fAll,no_f3])
   rw [← uh RF] at R1
   have hyl:(ys ++ [x]).length = n + 1:=by rw [List.length_append,p1]; rfl
   clear hq g1 g2 g3 e1 HT HX P2' P2 P3 P4 P5 RF hl M1 HZ
   try simp only [Nat.mul_one] at M2 R1 X1
   unfold atCells tenCells strV at M2 R1 X1 ⊢
   simp only [List.cons_append,List.nil_append] at M2 R1 X1 ⊢
   go_wp2_with fail
   go_roundw
   case rel => exact ⟨n + 1,ys ++ [x],by go_num,by omega,hide ⟨hyl,uh G1,uh X1,by rw [show L.length - (n + 1) = m by omega]; exact uh M2,uh R1⟩⟩
   case measure => simp [intOf]; omega
  ·have hi:¬ (n:Int) < (L.length:Int):=by omega
   have en:n = L.length:=by omega
   subst en
   rw [Nat.sub_self,List.replicate_zero,List.append_nil] at P4
   rw [List.take_of_length_le (Nat.le_refl _)] at P5
   have HE:=hide p1
   clear p1
   go_wp2_with fail
   go_ret
   exact ⟨w.heap.size,ys,by rw [uh HE]; rfl,hide ⟨⟨uh HE,uh P2⟩,uh P3,uh P4,Nat.le_refl _,uh P5⟩⟩
end Go.Proofs.YtmdlaahdgjegcaaGreat
