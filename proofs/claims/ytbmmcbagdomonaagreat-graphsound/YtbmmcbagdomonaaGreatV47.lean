import Derived.Test.YtbmmcbagdomonaaGreatV46
set_option maxRecDepth 100000
set_option maxHeartbeats 40000000
namespace Go.Proofs.YtbmmcbagdomonaaGreat
open Go.RowKit
set_option linter.unusedVariables false
set_option linter.unusedSimpArgs false
def ic9 (x:Int):List Value:=[.int .i64 x]
theorem icWd9:Wd 1 ic9:=⟨by decide,fun _ => rfl,fun a u hu => by simp [ic9] at hu; subst hu; rfl⟩
def Im (w:World) (b:Nat) (dl:List Int):Prop:=Mrow 3 ic9 w b dl
theorem Im.at {w:World} {b m:Nat} {dl:List Int} (h:Im w b dl) (hm:m < dl.length):w.cell? ⟨b,m,none⟩ = some (.int .i64 (dl.getD m 0)):=by
 have:=Mrow.at icWd9 (z:=(0:Int)) (i:=m) (j:=0) h hm rfl
 simpa using this
theorem Im.put {w:World} {b m:Nat} {dl:List Int} (h:Im w b dl) (hm:m < dl.length) (x:Int):Im (w.setCell ⟨b,m,none⟩ (.int .i64 x)) b (dl.set m x):=by
 have:=Mrow.set icWd9 h x hm
 unfold Im
 simpa [setMany,ic9] using this
theorem Im.lt {w:World} {b:Nat} {dl:List Int} (h:Im w b dl):b < w.heap.size:=lt_of_block h
theorem Im.below {w w':World} {b:Nat} {dl:List Int} (h:Im w b dl) (hb:Below w.heap.size w w'):Im w' b dl:=Mrow.below h hb
theorem Im.stay {w w':World} {g b:Nat} {dl:List Int} (h:Im w b dl) (hs:Stay g w w') (hg:b ≠ g):Im w' b dl:=(hs.block hg h.lt).trans h
theorem Im.ints {w:World} {b:Nat} {xs:List Int} (h:Im w b xs) (hx:∀ x ∈ xs,(Lit.int .i64 x).wf = true) (hl:xs.length ≤ 9223372036854775807):Ints .i64 w (some ⟨b,0,none⟩) xs.length xs :=
 ⟨Nat.le_refl _,hl,hx,fun _ => ⟨b,0,rfl,lt_of_block h,fun i hi => by
  have:=h.at hi
  rw [Nat.zero_add]; exact this⟩,fun h => by cases h⟩
def bump1 (l:List Int) (v:Int):List Int:=l.set v.toNat (l.getD v.toNat 0 + 1)
def bumpG (l:List Int) (vs:List Int):List Int:=vs.foldl bump1 l
def bumpsG (l:List Int) (ns:List GnD):List Int:=ns.foldl (fun l n => bumpG l n.outs) l
def timesG (g:GrD):List Int:=bumpsG (bumpG (g.vals.map fun v => if v.2.2.1 = true then 1 else 0) g.inp) g.nodes
def twiceG (g:GrD):Bool:=(timesG g).any fun n => decide (1 < n)
theorem bump_len:∀ (vs:List Int) (l:List Int),(bumpG l vs).length = l.length
 | [],l => rfl
 | v :: r,l => by show (bumpG (bump1 l v) r).length = _; rw [bump_len r]; unfold bump1; rw [List.length_set]
theorem bumps_len:∀ (ns:List GnD) (l:List Int),(bumpsG l ns).length = l.length
 | [],l => rfl
 | n :: r,l => by show (bumpsG (bumpG l n.outs) r).length = _; rw [bumps_len r,bump_len]
theorem bump_take (l:List Int) (vs:List Int) (n:Nat) (h:n < vs.length):bumpG l (vs.take (n + 1)) = bump1 (bumpG l (vs.take n)) (vs.getD n 0):=by
 unfold bumpG
 rw [List.take_add_one,List.foldl_append,List.getD_eq_getElem?_getD,List.getElem?_eq_getElem h]
 rfl
theorem bumps_take (l:List Int) (ns:List GnA) (n:Nat) (h:n < ns.length):bumpsG l ((ns.take (n + 1)).map GnA.d) = bumpG (bumpsG l ((ns.take n).map GnA.d)) (ns.getD n noGnA).outs:=by
 unfold bumpsG
 rw [map_take9 GnA.d ns noGnA n h,List.foldl_append]
 rfl
def Bd9 (l:List Int) (B:Nat):Prop:=∀ x ∈ l,0 ≤ x ∧ x ≤ (B:Int)
theorem bd_bump1 {l:List Int} {B:Nat} (h:Bd9 l B) (v:Int):Bd9 (bump1 l v) (B + 1):=by
 intro x hx
 unfold bump1 at hx
 rcases List.mem_or_eq_of_mem_set hx with g | g
 ·have:=h x g; omega
 ·by_cases q:v.toNat < l.length
  ·have:=h _ (getD_mem9 (z:=0) q); omega
  ·rw [List.set_eq_of_length_le (by omega)] at hx
   have:=h x hx; omega
theorem bd_bump:∀ (vs:List Int) {l:List Int} {B:Nat},Bd9 l B → Bd9 (bumpG l vs) (B + vs.length)
 | [],l,B,h => h
 | v :: r,l,B,h => by
   have:=bd_bump r (bd_bump1 h v)
   rw [List.length_cons,show B + (r.length + 1) = B + 1 + r.length by omega]
   exact this
theorem bd_bumps:∀ (ns:List GnA) {l:List Int} {B:Nat},Bd9 l B → Bd9 (bumpsG l (ns.map GnA.d)) (B + (ns.map fun n => n.outs.length).sum)
 | [],l,B,h => h
 | n :: r,l,B,h => by
   have:=bd_bumps r (bd_bump n.outs h)
   have e:((n :: r).map fun n:GnA => n.outs.length).sum = n.outs.length + (r.map fun n => n.outs.length).sum:=by simp
   rw [e,show B + (n.outs.length + (r.map fun n => n.outs.length).sum) = B + n.outs.length + (r.map fun n => n.outs.length).sum by omega]
   exact this
theorem sum_take9 (ns:List GnA) (n:Nat) (h:n < ns.length):((ns.take n).map fun n => n.outs.length).sum + (ns.getD n noGnA).outs.length ≤ (ns.map fun n => n.outs.length).sum:=by
 have e1:((ns.take (n + 1)).map fun n => n.outs.length).sum = ((ns.take n).map fun n => n.outs.length).sum + (ns.getD n noGnA).outs.length:=by
  rw [map_take9 (fun n:GnA => n.outs.length) ns noGnA n h,List.sum_append,List.sum_cons,List.sum_nil,Nat.add_zero]
 rw [← e1]
 conv => rhs; rw [← List.take_append_drop (n + 1) ns,List.map_append,List.sum_append]
 omega
def cons1 (a:VgA):Int:=if a.con = true then 1 else 0
theorem cons1_take (l:List VgA) (n:Nat) (h:n < l.length):((l.take n).map cons1 ++ List.replicate (l.length - n) 0).set n (cons1 (l.getD n noVgA)) = (l.take (n + 1)).map cons1 ++ List.replicate (l.length - (n + 1)) 0:=by
 have e:l.length - n = (l.length - (n + 1)) + 1:=by omega
 have hn:((l.take n).map cons1).length = n:=by rw [List.length_map,List.length_take]; omega
 rw [e]
 have:=set_mid ((l.take n).map cons1) (l.length - (n + 1)) (0:Int) (cons1 (l.getD n noVgA))
 rw [hn] at this
 rw [this,map_take9 cons1 l noVgA n h]
theorem cons1_len (l:List VgA) (n:Nat) (h:n ≤ l.length):((l.take n).map cons1 ++ List.replicate (l.length - n) (0:Int)).length = l.length:=by
 simp; omega
theorem cons1_get (l:List VgA) (n:Nat) (h:n < l.length):((l.take n).map cons1 ++ List.replicate (l.length - n) (0:Int)).getD n 0 = 0:=by
 have hn:((l.take n).map cons1).length = n:=by rw [List.length_map,List.length_take]; omega
 rw [List.getD_eq_getElem?_getD,List.getElem?_append_right (by omega),hn,Nat.sub_self,List.getElem?_replicate]
 rw [if_pos (by omega)]; rfl
theorem cmany9_any (x:Int) (w:World):Calls Tryz.prog 80 #[.int .i64 x] w fun e w' => e = .returned (.bool (decide (1 < x))) ∧ Below w.heap.size w w':=by
 go_enter Tryz.func80,Tryz.ntmps80
 go_wp2_with fail
 go_ret
 exact ⟨rfl,Below.refl _ _⟩
theorem ctwice9_any (G:GrA) (OK:Nat → Prop) (w:World) (h:GrIn OK w G) (hl:G.vals.length ≤ 1099511627776) (hp:placesG G.d = true) (hS:G.inp.length + (G.nodes.map fun n => n.outs.length).sum ≤ 4611686018427387904) :
  Calls Tryz.prog 37 #[grV G] w fun e w' => e = .returned (.bool (twiceG G.d)) ∧ Below w.heap.size w w':=by
 have HK1:Ent 80:=ent_of Tryz.func80 (by kernel_rfl) rfl
 have CM:=hide (fun (v:World) p c l (hl:Ints .i64 v p c l) => ccontInt9_any 80 HK1 #[] (fun u => decide (1 < u)) p c l v hl (fun u hu x _ => cmany9_any x u))
 obtain ⟨R,hR⟩:∃ R,twiceG G.d = R:=⟨_,rfl⟩
 have HR:=hide hR
 rw [hR]
 clear hR HK1
 obtain ⟨vals,qv,cv,nodes,qn,cn,inp,qi,ci,out,qo,co⟩:=G
 have HIN:Hid ((∀ v ∈ inp,0 ≤ v ∧ v < (vals.length:Int)) ∧ ∀ x ∈ nodes,∀ v ∈ x.outs,0 ≤ v ∧ v < (vals.length:Int)):=hide (by
  unfold placesG GrA.d at hp
  simp only [List.length_map,Bool.and_eq_true,Bool.not_eq_true',Bool.or_eq_false_iff,List.any_eq_false,Bool.not_eq_true,Bool.not_eq_false'] at hp
  obtain ⟨⟨h1,_⟩,h2⟩:=hp
  refine ⟨fun v hv => ?_,fun x hx v hv => ?_⟩
  ·have:=h1 v hv
   simpa [inV] using this
  ·have:=h2 x.d (List.mem_map.2 ⟨x,hx,rfl⟩)
   unfold badN at this
   simp only [Bool.or_eq_false_iff,List.any_eq_false] at this
   have:=this.2 v hv
   simpa [inV] using this)
 obtain ⟨i1,hi1,y1,z1,b1⟩:=info_parts Tryz.info8int
 have HV:=hide h.1
 have HN:=hide h.2.1
 have HI:=hide h.2.2.1
 have HSS:=hide hS
 simp only at HV HN HI hl HSS
 clear h hp hS
 have hlen:=(uh HV).1.len
 go_enter Tryz.func37,Tryz.ntmps37
 unfold grV grCells
 go_wp2_with (at_make; (refine wpList_make_full _ rfl _ _ 30 rfl (w.heap.size + 1) 3 i1 (.int .i64 0) 1 Tryz.underlying30 hi1 y1 z1 _ _ _ _ vals.length rfl rfl (by omega) (by omega) (by rw [b1]; omega) (by unfold maxLen; omega) (by simp) ?_; intro w3 hown hgrow; have HM:Hid (Im w3 (w.heap.size + 1) (List.replicate vals.length 0)):=hide (by have:=Mrow.made icWd9 (0:Int) rfl hown; simpa [Im] using this); have HB3:=hide ((Below.refl _ _).grown hgrow (Nat.le_refl _) (fun k hk => by cases hk)); have X3:Hid (Box w3 w.heap.size #[.slice qv vals.length cv,.slice qn nodes.length cn,.slice qi inp.length ci,.slice qo out.length co] 32):=hide (Box.below (Box.new _ _ _) (uh HB3)); have BB3:Hid (Below w.heap.size w w3):=hide (bl_tr (al1p _ _) (uh HB3)); clear hown hgrow HB3; have x3:=(uh X3).cell; have xl:=(uh X3).lt))
 obtain ⟨sb,hsb⟩:∃ sb,w.heap.size + 1 = sb:=⟨_,rfl⟩
 have HSB:=hide hsb
 rw [hsb] at HM
 rw [hsb]
 have LV:=hide hlen
 clear hsb x3 xl hlen
 go_loopw [19] (fun iv wr => ∃ n:Nat,iv = .int .i64 n ∧ n ≤ vals.length ∧ Hid (Im wr sb ((vals.take n).map cons1 ++ List.replicate (vals.length - n) 0)) ∧ Hid (Stay sb w3 wr)) (fun iv _ => vals.length - (intOf iv).toNat)
 case atStart => exact ⟨0,rfl,by omega,hide (by simpa using uh HM),hide (Stay.refl _ _)⟩
 case round =>
  obtain ⟨n,rfl,hn,HF,HS⟩:=hrel
  have BW:Hid (Below w.heap.size w wr):=hide (bl_tr7 (uh BB3) (bl_mono7 (uh HS).1 (by have:=uh HSB; omega)))
  have hlen:=uh LV
  by_cases hlt:n < vals.length
  ·have hi:(n:Int) < (vals.length:Int):=by omega
   obtain ⟨bq,oq,hq,hbq,_⟩:=(uh HV).1.lies (show 0 < vals.length by omega)
   subst hq
   have A1:Hid (At8 wr bq (oq + n * 8) (vgCells (vals.getD n noVgA))):=hide (Rc.at9 ((uh HV).1.below (uh BW)) hlt)
   have HT:=hide (cons1_take vals n hlt)
   have hm2:n < ((vals.take n).map cons1 ++ List.replicate (vals.length - n) (0:Int)).length:=by rw [cons1_len _ _ hn]; exact hlt
   have k2:=(uh HF).at hm2
   rw [cons1_get _ _ hlt] at k2
   have kl:=(uh HF).lt
   have kne:sb ≠ wr.heap.size:=by omega
   have HP:=hide (fun v (hv:Stay wr.heap.size wr v) => ((uh HF).stay hv (by omega)).put hm2 (cons1 (vals.getD n noVgA)))
   have HP1:=hide (fun v (hv:Stay wr.heap.size wr v) => ((uh HF).stay hv (by omega)))
   have HZ:Hid (cons1 (vals.getD n noVgA) = 0 → ((vals.take n).map cons1 ++ List.replicate (vals.length - n) (0:Int)).set n (cons1 (vals.getD n noVgA)) = ((vals.take n).map cons1 ++ List.replicate (vals.length - n) 0)):=hide (fun e => by
    rw [e]
    have:=set_self9 ((vals.take n).map cons1 ++ List.replicate (vals.length - n) (0:Int)) n 0 hm2
    rw [cons1_get _ _ hlt] at this
    exact this)
   generalize (vals.getD n noVgA) = x at A1 HP HT HZ
   clear hm2
   obtain ⟨bc,hbc⟩:∃ bc,x.con = bc:=⟨_,rfl⟩
   have HBC:=hide hbc
   cases bc with
   | true =>
     have HC:Hid (cons1 x = 1):=hide (by unfold cons1; rw [hbc]; rfl)
     go_wp2_with (first
      | (refine wpList_isLoad 59 rfl ?_; refine wpList_loadG aggVal rfl _ rfl rfl (vgWd.2.1 x) (uh A1) ?_)
      | (refine wpList_isStore 59 rfl ?_; (refine wpList_storeG aggVal rfl _ _ rfl rfl rfl (Box.new wr valZ 59) (vgSize x) rfl (vgWd.ones x) ?_; intro w5 b5 s5 z5; have G5:=hide b5; have S5:Hid (Stay wr.heap.size wr w5):=hide ((Stay.below (al1p _ _) (Nat.le_refl _)).trans s5); have z6:w5.heap.size = wr.heap.size + 1:=z5.trans (by simp); have v2:w5.cell? ⟨wr.heap.size,2,none⟩ = some (.bool true):=(((uh G5).cell 2).trans (show _ = some (Value.bool x.con) from rfl)).trans (congrArg (fun b => some (Value.bool b)) (uh HBC)); have k3:sb < w5.heap.size:=(by omega); have k4:w5.frozen? ⟨sb,n,none⟩ = false:=Mrow.frozen (uh HP1 w5 (uh S5)) n; have k5:w5.cell? ⟨sb,n,none⟩ = some (.int .i64 0):=(World.cell?_of_block (w:=wr) (a:=⟨sb,n,none⟩) ((uh S5).block kne kl)).trans k2; clear b5 s5 z5)))
     go_roundw
     case rel =>
      refine ⟨n + 1,by go_num,by omega,hide ?_,hide ((uh HS).trans ?_)⟩
      ·rw [← uh HT]; have:=uh HP w5 (uh S5); rw [uh HC] at this ⊢; exact this
      ·exact (Stay.below (uh S5).1 (by omega)).trans (Stay.set8 _)
     case measure => simp [intOf]; omega
   | false =>
     have HC:Hid (cons1 x = 0):=hide (by unfold cons1; rw [hbc]; rfl)
     go_wp2_with (first
      | (refine wpList_isLoad 59 rfl ?_; refine wpList_loadG aggVal rfl _ rfl rfl (vgWd.2.1 x) (uh A1) ?_)
      | (refine wpList_isStore 59 rfl ?_; (refine wpList_storeG aggVal rfl _ _ rfl rfl rfl (Box.new wr valZ 59) (vgSize x) rfl (vgWd.ones x) ?_; intro w5 b5 s5 z5; have G5:=hide b5; have S5:Hid (Stay wr.heap.size wr w5):=hide ((Stay.below (al1p _ _) (Nat.le_refl _)).trans s5); have z6:w5.heap.size = wr.heap.size + 1:=z5.trans (by simp); have v2:w5.cell? ⟨wr.heap.size,2,none⟩ = some (.bool false):=(((uh G5).cell 2).trans (show _ = some (Value.bool x.con) from rfl)).trans (congrArg (fun b => some (Value.bool b)) (uh HBC)); clear b5 s5 z5)))
     go_roundw
     case rel =>
      refine ⟨n + 1,by go_num,by omega,hide ?_,hide ((uh HS).trans ?_)⟩
      ·rw [← uh HT,uh HZ (uh HC)]; exact uh HP1 w5 (uh S5)
      ·exact Stay.below (uh S5).1 (by omega)
     case measure => simp [intOf]; omega
  ·have hi:¬ (n:Int) < (vals.length:Int):=by omega
   have e0:n = vals.length:=by omega
   subst e0
   rw [List.take_length,Nat.sub_self] at HF
   obtain ⟨v0,hv0⟩:∃ v,v = wr:=⟨_,rfl⟩
   subst hv0
   have X4:Hid (Box v0 w.heap.size _ _):=hide (((uh HS).block (by have:=uh HSB; omega) (uh X3).lt).trans (uh X3))
   have x4:=(uh X4).cell
   have xl4:=(uh X4).lt
   obtain ⟨T0,hT0⟩:∃ T,vals.map cons1 = T:=⟨_,rfl⟩
   have HF0:Hid (Im v0 sb T0):=hide (by rw [← hT0]; simpa using uh HF)
   have HL:Hid (T0.length = vals.length):=hide (by rw [← hT0]; simp)
   have HBD:Hid (Bd9 T0 1):=hide (by
    rw [← hT0]
    intro y hy
    obtain ⟨a,_,rfl⟩:=List.mem_map.1 hy
    unfold cons1
    by_cases q:a.con = true
    ·rw [if_pos q]; omega
    ·rw [if_neg q]; omega)
   have HRT:Hid (R = (bumpsG (bumpG T0 inp) (nodes.map GnA.d)).any fun n => decide (1 < n)):=hide (by
    rw [← uh HR,← hT0]
    unfold twiceG timesG GrA.d
    simp only [List.map_map]
    rfl)
   have LI:=hide (uh HI).1.ls.len
   clear HF hT0 HR HM
   go_wp2_with fail
   go_loopw [36] (fun iv wr => ∃ n:Nat,iv = .int .i64 n ∧ n ≤ inp.length ∧ Hid (Im wr sb (bumpG T0 (inp.take n))) ∧ Hid (Stay sb v0 wr)) (fun iv _ => inp.length - (intOf iv).toNat)
   case atStart => exact ⟨0,rfl,by omega,HF0,hide (Stay.refl _ _)⟩
   case round =>
    obtain ⟨n,rfl,hn,HF,HS2⟩:=hrel
    have BW2:Hid (Below w.heap.size w wr):=hide (bl_tr7 (uh BW) (bl_mono7 (uh HS2).1 (by have:=uh HSB; omega)))
    have hlen:=uh LI
    by_cases hlt:n < inp.length
    ·have hi:(n:Int) < (inp.length:Int):=by omega
     obtain ⟨bq,oq,hq,hbq,hcq⟩:=((uh HI).1.ls.below (uh BW2)).lies (show 0 < inp.length by omega)
     subst hq
     have k1:wr.cell? ⟨bq,oq + n,none⟩ = some (.int .i64 (inp.getD n 0)):=hcq n hlt
     have HT:=hide (bump_take T0 inp n hlt)
     obtain ⟨r0,r1⟩:=(uh HI).1.i64 n hlt
     obtain ⟨h0,h1⟩:=(uh HIN).1 _ (getD_mem9 (z:=0) hlt)
     clear hcq
     generalize inp.getD n 0 = x at k1 HT r0 r1 h0 h1
     obtain ⟨m,rfl⟩:∃ m:Nat,x = m:=⟨x.toNat,by omega⟩
     have hmd:m < vals.length:=by omega
     have hm2:m < (bumpG T0 (inp.take n)).length:=by rw [bump_len,uh HL]; exact hmd
     have k2:=(uh HF).at hm2
     have kf:wr.frozen? ⟨sb,m,none⟩ = false:=Mrow.frozen (uh HF) m
     have kl:=(uh HF).lt
     have HTS:=uh HSS
     obtain ⟨t0,t1⟩:=bd_bump (inp.take n) (uh HBD) _ (getD_mem9 (z:=0) hm2)
     rw [List.length_take] at t1
     have HP:=hide ((uh HF).put hm2 ((bumpG T0 (inp.take n)).getD m 0 + 1))
     have HB1:Hid (bump1 (bumpG T0 (inp.take n)) (m:Int) = (bumpG T0 (inp.take n)).set m ((bumpG T0 (inp.take n)).getD m 0 + 1)):=hide (by unfold bump1; rw [Int.toNat_natCast])
     generalize (bumpG T0 (inp.take n)).getD m 0 = tv at k2 HP HB1 t0 t1
     have hw:IntKind.i64.wrap (tv + 1) = tv + 1:=by rw [IntKind.wrap_i64]; omega
     clear hm2 HTS t0 t1
     go_wp2_with fail
     go_roundw
     case rel =>
      refine ⟨n + 1,by go_num,by omega,hide ?_,hide ((uh HS2).trans (Stay.set8 _))⟩
      rw [uh HT,uh HB1]; exact uh HP
     case measure => simp [intOf]; omega
    ·have hi:¬ (n:Int) < (inp.length:Int):=by omega
     have e0:n = inp.length:=by omega
     subst e0
     rw [List.take_length] at HF
     obtain ⟨v1,hv1⟩:∃ v,v = wr:=⟨_,rfl⟩
     subst hv1
     have X5:Hid (Box v1 w.heap.size _ _):=hide (((uh HS2).block (by have:=uh HSB; omega) (uh X4).lt).trans (uh X4))
     have x5:=(uh X5).cell
     have xl5:=(uh X5).lt
     have HBD2:=hide (bd_bump inp (uh HBD))
     obtain ⟨T1,hT1⟩:∃ T,bumpG T0 inp = T:=⟨_,rfl⟩
     rw [hT1] at HF HBD2 HRT
     have HL1:Hid (T1.length = vals.length):=hide (by rw [← hT1,bump_len]; exact uh HL)
     have LN:=hide (uh HN).1.len
     clear hT1 hlen x4 xl4
     go_wp2_with fail
     have hlen2:=uh LN
     go_loopw [50] (fun iv wr => ∃ n:Nat,iv = .int .i64 n ∧ n ≤ nodes.length ∧ Hid (Im wr sb (bumpsG T1 ((nodes.take n).map GnA.d))) ∧ Hid (Stay sb v1 wr)) (fun iv _ => nodes.length - (intOf iv).toNat)
     case atStart => exact ⟨0,rfl,by omega,HF,hide (Stay.refl _ _)⟩
     case round =>
      obtain ⟨n,rfl,hn,HF3,HS3⟩:=hrel
      have BW3:Hid (Below w.heap.size w wr):=hide (bl_tr7 (uh BW2) (bl_mono7 (uh HS3).1 (by have:=uh HSB; omega)))
      by_cases hlt:n < nodes.length
      ·have hi:(n:Int) < (nodes.length:Int):=by omega
       obtain ⟨bg,og,hq,hbg,_⟩:=(uh HN).1.lies (show 0 < nodes.length by omega)
       subst hq
       have A1:Hid (At8 wr bg (og + n * 40) (gnCells (nodes.getD n noGnA))):=hide (Rc.at9 ((uh HN).1.below (uh BW3)) hlt)
       have HX:Hid (GnIn OK w (nodes.getD n noGnA)):=hide ((uh HN).2.2 _ (getD_mem9 hlt))
       have HXO:=hide ((uh HIN).2 _ (getD_mem9 (z:=noGnA) hlt))
       have HT:=hide (bumps_take T1 nodes n hlt)
       have HSU:Hid (Bd9 (bumpsG T1 ((nodes.take n).map GnA.d)) (1 + inp.length + ((nodes.take n).map fun n => n.outs.length).sum) ∧ 1 + inp.length + ((nodes.take n).map fun n => n.outs.length).sum + (nodes.getD n noGnA).outs.length ≤ 4611686018427387905):=hide ⟨bd_bumps (nodes.take n) (uh HBD2),by have h1:=sum_take9 nodes n hlt; have h2:=uh HSS; omega⟩
       generalize ((nodes.take n).map fun n => n.outs.length).sum = SU at HSU
       generalize nodes.getD n noGnA = x at A1 HX HXO HT HSU
       obtain ⟨T2,hT2⟩:∃ T,bumpsG T1 ((nodes.take n).map GnA.d) = T:=⟨_,rfl⟩
       have HL2:Hid (T2.length = vals.length):=hide (by rw [← hT2,bumps_len]; exact uh HL1)
       rw [hT2] at HF3 HT HSU
       clear hT2 x5 xl5 hbg
       have klb:=(uh HF3).lt
       go_wp2_with (first
        | (refine wpList_isLoad 51 rfl ?_; refine wpList_loadG aggGn rfl _ rfl rfl (gnWd.2.1 x) (uh A1) ?_)
        | (refine wpList_isStore 51 rfl ?_; (refine wpList_storeG aggGn rfl _ _ rfl rfl rfl (Box.new wr gnZc 51) (gnSize x) rfl (gnWd.ones x) ?_; intro w5 b5 s5 z5; have G5:=hide b5; have B5:Hid (Below wr.heap.size wr w5):=hide (bl_tr7 (al1p _ _) s5.1); have v38:w5.cell? ⟨wr.heap.size,38,none⟩ = some (.slice x.qo x.outs.length x.co):=((uh G5).cell 38).trans (by simpa using gn_38 x); have F5:=hide ((uh HF3).below (uh B5)); clear b5 s5 z5)))
       have LO:=hide (uh HX).2.2.2.1.1.ls.len
       go_loopw [57] (fun iv wq => ∃ k:Nat,iv = .int .i64 k ∧ k ≤ x.outs.length ∧ Hid (Im wq sb (bumpG T2 (x.outs.take k))) ∧ Hid (Stay sb w5 wq)) (fun iv _ => x.outs.length - (intOf iv).toNat)
       case atStart => exact ⟨0,rfl,by omega,F5,hide (Stay.refl _ _)⟩
       case round =>
        obtain ⟨k,rfl,hk,HF4,HS4⟩:=hrel
        have BW4:Hid (Below w.heap.size w wr):=hide (bl_tr7 (bl_tr (uh BW3) (uh B5)) (bl_mono7 (uh HS4).1 (by have:=uh HSB; omega)))
        have hlen3:=uh LO
        by_cases hlt2:k < x.outs.length
        ·have hi2:(k:Int) < (x.outs.length:Int):=by omega
         obtain ⟨bq,oq,hq,hbq,hcq⟩:=((uh HX).2.2.2.1.1.ls.below (uh BW4)).lies (show 0 < x.outs.length by omega)
         have k1:wr.cell? ⟨bq,oq + k,none⟩ = some (.int .i64 (x.outs.getD k 0)):=hcq k hlt2
         have HT4:=hide (bump_take T2 x.outs k hlt2)
         obtain ⟨r0,r1⟩:=(uh HX).2.2.2.1.1.i64 k hlt2
         obtain ⟨h0,h1⟩:=uh HXO _ (getD_mem9 (z:=0) hlt2)
         rw [hq]
         clear hcq hq hbq
         generalize x.outs.getD k 0 = y at k1 HT4 r0 r1 h0 h1
         obtain ⟨m,rfl⟩:∃ m:Nat,y = m:=⟨y.toNat,by omega⟩
         have hmd:m < vals.length:=by omega
         have hm2:m < (bumpG T2 (x.outs.take k)).length:=by rw [bump_len,uh HL2]; exact hmd
         have k2:=(uh HF4).at hm2
         have kf:wr.frozen? ⟨sb,m,none⟩ = false:=Mrow.frozen (uh HF4) m
         have kl:=(uh HF4).lt
         obtain ⟨t0,t1⟩:=bd_bump (x.outs.take k) (uh HSU).1 _ (getD_mem9 (z:=0) hm2)
         rw [List.length_take] at t1
         have HTS:=(uh HSU).2
         have HP:=hide ((uh HF4).put hm2 ((bumpG T2 (x.outs.take k)).getD m 0 + 1))
         have HB1:Hid (bump1 (bumpG T2 (x.outs.take k)) (m:Int) = (bumpG T2 (x.outs.take k)).set m ((bumpG T2 (x.outs.take k)).getD m 0 + 1)):=hide (by unfold bump1; rw [Int.toNat_natCast])
         generalize (bumpG T2 (x.outs.take k)).getD m 0 = tv at k2 HP HB1 t0 t1
         have hw:IntKind.i64.wrap (tv + 1) = tv + 1:=by rw [IntKind.wrap_i64]; omega
         clear hm2 HTS t0 t1
         go_wp2_with fail
         go_roundw
         case rel =>
          refine ⟨k + 1,by go_num,by omega,hide ?_,hide ((uh HS4).trans (Stay.set8 _))⟩
          rw [uh HT4,uh HB1]; exact uh HP
         case measure => simp [intOf]; omega
        ·have hi2:¬ (k:Int) < (x.outs.length:Int):=by omega
         have e0:k = x.outs.length:=by omega
         subst e0
         rw [List.take_length] at HF4
         go_wp2_with fail
         go_roundw
         case rel =>
          refine ⟨n + 1,by go_num,by omega,hide ?_,hide ((uh HS3).trans ((Stay.below (uh B5) (Nat.le_of_lt klb)).trans (uh HS4)))⟩
          rw [uh HT]; exact uh HF4
         case measure => simp [intOf]; omega
      ·have hi:¬ (n:Int) < (nodes.length:Int):=by omega
       have e0:n = nodes.length:=by omega
       subst e0
       rw [List.take_length] at HF3
       have HB3:=hide (bd_bumps nodes (uh HBD2))
       obtain ⟨T3,hT3⟩:∃ T,bumpsG T1 (nodes.map GnA.d) = T:=⟨_,rfl⟩
       have HL3:Hid (T3.length = vals.length):=hide (by rw [← hT3,bumps_len]; exact uh HL1)
       rw [hT3] at HF3 HB3 HRT
       have CC:=hide (uh CM wr _ _ T3 (Im.ints (uh HF3) (fun y hy => by
        obtain ⟨t0,t1⟩:=uh HB3 y hy
        have:=uh HSS
        exact WalkArith.wf_i64 (by omega)) (by rw [uh HL3]; omega)))
       rw [uh HL3] at CC
       rw [← uh HRT] at CC
       go_wp2_with fail
       refine (uh CC).mono ?_
       rintro e w9 ⟨rfl,hb⟩
       have B9:=hide (bl_tr (uh BW3) hb)
       clear hb
       go_wp2_with fail
       go_ret
       exact ⟨rfl,uh B9⟩
end Go.Proofs.YtbmmcbagdomonaaGreat
