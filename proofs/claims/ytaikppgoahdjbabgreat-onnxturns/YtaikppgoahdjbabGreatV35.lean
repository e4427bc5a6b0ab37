import Derived.Test.YtaikppgoahdjbabGreatV01
import Derived.Test.YtaikppgoahdjbabGreatV27
import Derived.Test.YtaikppgoahdjbabGreatV33
import Derived.Test.YtaikppgoahdjbabGreatV34
set_option maxRecDepth 100000
set_option maxHeartbeats 8000000
namespace Go.Proofs.YtaikppgoahdjbabGreat
open Go.RowKit
set_option linter.unusedVariables false
theorem clisted_any (qf:Option Addr) (nf cf:Nat) (qs:Option Addr) (ns cs:Nat) (qn:Option Addr) (nn cn:Nat) (qr:Option Addr) (nr cr:Nat) (is:Bool) (w:World) (h1:nf ≤ 100000000) (h2:ns ≤ 100000000) (h3:nn ≤ 100000000) :
  Calls Tryz.prog 181 #[.agg #[.slice qf nf cf,.slice qs ns cs,.slice qn nn cn,.slice qr nr cr,.bool is]] w fun e w' => e = .returned (.int .i64 ((nf:Int) + ns + nn)) ∧ Below w.heap.size w w':=by
 have HB:=hide (fun o => al1p w o)
 go_enter Tryz.func181,Tryz.ntmps181
 go_wp2_with fail
 go_ret
 exact ⟨rfl,uh HB _⟩
theorem ccutF_any (p:Option Addr) (c:Nat) (b:List Int) (N:Nat) (w:World) (h:Ints .u8 w p c b) (hN:b.length = N * 4) (hs:N ≤ 4194304) :
  Calls Tryz.prog 182 #[.int .i64 1,.slice p b.length c] w fun e w' => ∃ q1 d1,e = .returned (.agg #[.slice q1 N d1,.slice none 0 0,.slice none 0 0,.slice none 0 0,.bool false]) ∧ Hid (w'.ownsRow w.heap.size 118 1 (.slice q1 N d1) N (((List.range N).map (fun i => (fun x => x % 4294967296) (atP 4 b i))).map (Value.int .u32)) ∧ Below w.heap.size w w'):=by
 have C1:=hide (fun v => cwidth_any 1 v)
 rw [show widthV 1 = 4 from rfl] at C1
 have C2:=hide (fun v (hv:Below w.heap.size w v) => cpartedF_any p c b N v (h.below hv) hN hs)
 have nl:=h.len
 have hll:((List.range N).map (fun i => (fun x => x % 4294967296) (atP 4 b i))).length = N:=by rw [List.length_map,List.length_range]
 have HLL:=hide hll
 generalize (List.range N).map (fun i => (fun x => x % 4294967296) (atP 4 b i)) = XS at C2 HLL ⊢
 clear h hN hll
 have Y0:=hide (Box.new w #[.slice none 0 0,.slice none 0 0,.slice none 0 0,.slice none 0 0,.bool false] 190)
 go_enter Tryz.func182,Tryz.ntmps182
 go_wp2_with fail
 refine (uh C1 _).mono ?_
 rintro e v ⟨rfl,hv⟩
 replace hv:=hv.symm
 subst hv
 go_wp2_with fail
 refine (uh C2 _ (al1p _ _)).mono ?_
 rintro e w1 ⟨v1,rfl,hO⟩
 obtain ⟨q1,d1,rfl,_,_⟩:=hO.form
 have O1:=hide hO.1
 have B1:=hide (bl_tr (al1p w _) hO.2)
 have Y1:=hide ((uh Y0).below hO.2)
 have y1:=(uh Y1).cell
 have z1:=(uh Y1).frozen
 rw [uh HLL] at O1
 rw [uh HLL]
 clear hO
 go_wp2_with fail
 have Y2:=hide ((uh Y1).set5 (.slice q1 N d1) (.slice none 0 0) (.slice none 0 0) (.slice none 0 0) (.bool false))
 have O2:=hide (ownsRow_base (ownsRow_set (ownsRow_set (ownsRow_set (ownsRow_set (ownsRow_set (uh O1) (g:=w.heap.size) (by simp) 0 (.slice q1 N d1)) (g:=w.heap.size) (by simp) 1 (.slice none 0 0)) (g:=w.heap.size) (by simp) 2 (.slice none 0 0)) (g:=w.heap.size) (by simp) 3 (.slice none 0 0)) (g:=w.heap.size) (by simp) 4 (.bool false)) (show w.heap.size ≤ _ by simp))
 have B2:=hide (bset5 (uh B1) (Nat.le_refl w.heap.size) (.slice q1 N d1) (.slice none 0 0) (.slice none 0 0) (.slice none 0 0) (.bool false))
 refine bodyPost_ret ?_ rfl ⟨q1,d1,rfl,hide ⟨uh O2,uh B2⟩⟩
 simp [results,Tryz.results182,go_sem,(uh Y2).cell]
theorem ccutI_any (p:Option Addr) (c:Nat) (b:List Int) (N:Nat) (w:World) (h:Ints .u8 w p c b) (hN:b.length = N * 8) (hs:N ≤ 4194304) :
  Calls Tryz.prog 182 #[.int .i64 7,.slice p b.length c] w fun e w' => ∃ q1 d1,e = .returned (.agg #[.slice none 0 0,.slice none 0 0,.slice q1 N d1,.slice none 0 0,.bool false]) ∧ Hid (w'.ownsRow w.heap.size 2 1 (.slice q1 N d1) N (((List.range N).map (fun i => (i64w) (atP 8 b i))).map (Value.int .i64)) ∧ Below w.heap.size w w'):=by
 have C1:=hide (fun v => cwidth_any 7 v)
 rw [show widthV 7 = 8 from rfl] at C1
 have C2:=hide (fun v (hv:Below w.heap.size w v) => cpartedI_any p c b N v (h.below hv) hN hs)
 have nl:=h.len
 have hll:((List.range N).map (fun i => (i64w) (atP 8 b i))).length = N:=by rw [List.length_map,List.length_range]
 have HLL:=hide hll
 generalize (List.range N).map (fun i => (i64w) (atP 8 b i)) = XS at C2 HLL ⊢
 clear h hN hll
 have Y0:=hide (Box.new w #[.slice none 0 0,.slice none 0 0,.slice none 0 0,.slice none 0 0,.bool false] 190)
 go_enter Tryz.func182,Tryz.ntmps182
 go_wp2_with fail
 refine (uh C1 _).mono ?_
 rintro e v ⟨rfl,hv⟩
 replace hv:=hv.symm
 subst hv
 go_wp2_with fail
 refine (uh C2 _ (al1p _ _)).mono ?_
 rintro e w1 ⟨v1,rfl,hO⟩
 obtain ⟨q1,d1,rfl,_,_⟩:=hO.form
 have O1:=hide hO.1
 have B1:=hide (bl_tr (al1p w _) hO.2)
 have Y1:=hide ((uh Y0).below hO.2)
 have y1:=(uh Y1).cell
 have z1:=(uh Y1).frozen
 rw [uh HLL] at O1
 rw [uh HLL]
 clear hO
 go_wp2_with fail
 have Y2:=hide ((uh Y1).set5 (.slice none 0 0) (.slice none 0 0) (.slice q1 N d1) (.slice none 0 0) (.bool false))
 have O2:=hide (ownsRow_base (ownsRow_set (ownsRow_set (ownsRow_set (ownsRow_set (ownsRow_set (uh O1) (g:=w.heap.size) (by simp) 0 (.slice none 0 0)) (g:=w.heap.size) (by simp) 1 (.slice none 0 0)) (g:=w.heap.size) (by simp) 2 (.slice q1 N d1)) (g:=w.heap.size) (by simp) 3 (.slice none 0 0)) (g:=w.heap.size) (by simp) 4 (.bool false)) (show w.heap.size ≤ _ by simp))
 have B2:=hide (bset5 (uh B1) (Nat.le_refl w.heap.size) (.slice none 0 0) (.slice none 0 0) (.slice q1 N d1) (.slice none 0 0) (.bool false))
 refine bodyPost_ret ?_ rfl ⟨q1,d1,rfl,hide ⟨uh O2,uh B2⟩⟩
 simp [results,Tryz.results182,go_sem,(uh Y2).cell]
theorem ccutB_any (p:Option Addr) (c:Nat) (b:List Int) (N:Nat) (w:World) (h:Ints .u8 w p c b) (hN:b.length = N * 1) (hs:N ≤ 4194304) :
  Calls Tryz.prog 182 #[.int .i64 9,.slice p b.length c] w fun e w' => ∃ q1 d1,e = .returned (.agg #[.slice none 0 0,.slice q1 N d1,.slice none 0 0,.slice none 0 0,.bool false]) ∧ Hid (w'.ownsRow w.heap.size 2 1 (.slice q1 N d1) N (((List.range N).map (fun i => (i64w) (atP 1 b i))).map (Value.int .i64)) ∧ Below w.heap.size w w'):=by
 have C1:=hide (fun v => cwidth_any 9 v)
 rw [show widthV 9 = 1 from rfl] at C1
 have C2:=hide (fun v (hv:Below w.heap.size w v) => cpartedB_any p c b N v (h.below hv) hN hs)
 have nl:=h.len
 have hll:((List.range N).map (fun i => (i64w) (atP 1 b i))).length = N:=by rw [List.length_map,List.length_range]
 have HLL:=hide hll
 generalize (List.range N).map (fun i => (i64w) (atP 1 b i)) = XS at C2 HLL ⊢
 clear h hN hll
 have Y0:=hide (Box.new w #[.slice none 0 0,.slice none 0 0,.slice none 0 0,.slice none 0 0,.bool false] 190)
 go_enter Tryz.func182,Tryz.ntmps182
 go_wp2_with fail
 refine (uh C1 _).mono ?_
 rintro e v ⟨rfl,hv⟩
 replace hv:=hv.symm
 subst hv
 go_wp2_with fail
 refine (uh C2 _ (al1p _ _)).mono ?_
 rintro e w1 ⟨v1,rfl,hO⟩
 obtain ⟨q1,d1,rfl,_,_⟩:=hO.form
 have O1:=hide hO.1
 have B1:=hide (bl_tr (al1p w _) hO.2)
 have Y1:=hide ((uh Y0).below hO.2)
 have y1:=(uh Y1).cell
 have z1:=(uh Y1).frozen
 rw [uh HLL] at O1
 rw [uh HLL]
 clear hO
 go_wp2_with fail
 have Y2:=hide ((uh Y1).set5 (.slice none 0 0) (.slice q1 N d1) (.slice none 0 0) (.slice none 0 0) (.bool false))
 have O2:=hide (ownsRow_base (ownsRow_set (ownsRow_set (ownsRow_set (ownsRow_set (ownsRow_set (uh O1) (g:=w.heap.size) (by simp) 0 (.slice none 0 0)) (g:=w.heap.size) (by simp) 1 (.slice q1 N d1)) (g:=w.heap.size) (by simp) 2 (.slice none 0 0)) (g:=w.heap.size) (by simp) 3 (.slice none 0 0)) (g:=w.heap.size) (by simp) 4 (.bool false)) (show w.heap.size ≤ _ by simp))
 have B2:=hide (bset5 (uh B1) (Nat.le_refl w.heap.size) (.slice none 0 0) (.slice q1 N d1) (.slice none 0 0) (.slice none 0 0) (.bool false))
 refine bodyPost_ret ?_ rfl ⟨q1,d1,rfl,hide ⟨uh O2,uh B2⟩⟩
 simp [results,Tryz.results182,go_sem,(uh Y2).cell]
structure StA where
 fl:List Int
 qf:Option Addr
 cf:Nat
 sm:List Int
 qs:Option Addr
 cs:Nat
 nu:List Int
 qn:Option Addr
 cn:Nat
 rw:List Int
 qr:Option Addr
 cr:Nat
 isR:Bool
def stCells (a:StA):Array Value:=#[.slice a.qf a.fl.length a.cf,.slice a.qs a.sm.length a.cs,.slice a.qn a.nu.length a.cn,.slice a.qr a.rw.length a.cr,.bool a.isR]
def StIn (g B:Nat) (w:World) (a:StA):Prop:=w.ownsRow B 118 1 (.slice a.qf a.fl.length a.cf) a.fl.length (a.fl.map (Value.int .u32)) ∧ w.ownsRow B 2 1 (.slice a.qs a.sm.length a.cs) a.sm.length (a.sm.map (Value.int .i64)) ∧ w.ownsRow B 2 1 (.slice a.qn a.nu.length a.cn) a.nu.length (a.nu.map (Value.int .i64)) ∧ Ints .u8 w a.qr a.cr a.rw ∧ Off g a.qr a.rw.length
def storedF (l:List Fld):F3:=f3 (f3 (f3 (bad3 ((lastV l 9 2).2.2 != 0)) (floatsP l 4).2) (intsP l 5).2) (intsP l 7).2
theorem own_form7 {base k n:Nat} {e:TypeId} {w:World} {v:Value} {xs:List Value} (h:w.ownsRow base e k v n xs):∃ q d,v = .slice q n d:=own_slice h
theorem ownsRow_off {base k n r:Nat} {e t:TypeId} {w w':World} {v:Value} {xs:List Value} {cs:Array Value} (h:w.ownsRow base e k v n xs) (hb:Box w r cs t) (ht:t ≠ e) (s:Stay r w w'):w'.ownsRow base e k v n xs:=by
 obtain ⟨l1,h1⟩:=h
 refine ⟨l1,?_⟩
 rcases h1 with ⟨rfl,h0⟩ | ⟨b,cap,cur,rfl,hb1,hh,hc,hm,hs2,ht2⟩
 ·exact .inl ⟨rfl,h0⟩
 ·refine .inr ⟨b,cap,cur,rfl,hb1,(s.block (fun e2 => ?_) (lt_of_block hh)).trans hh,hc,hm,hs2,ht2⟩
  subst e2
  unfold Box at hb
  rw [hb] at hh
  simp only [Option.some.injEq,Obj.cells.injEq] at hh
  exact ht hh.2.1
theorem creadStored_any (g:Nat) (q:Option Addr) (d:Nat) (L:List FA) (w:World) (hw:WstE g w) (h:MsIn g w q d L) :
  Calls Tryz.prog 148 #[msV q L.length d g] w fun e w' => ∃ a:StA,e = .returned (.agg (stCells a)) ∧ Hid ((a.fl = (floatsP (L.map FA.f) 4).1 ∧ a.sm = (intsP (L.map FA.f) 5).1 ∧ a.nu = (intsP (L.map FA.f) 7).1 ∧ a.rw = (lastV (L.map FA.f) 9 2).1.2.2.2 ∧ a.isR = (lastV (L.map FA.f) 9 2).2.1) ∧ StIn g w.heap.size w' a ∧ RE g (storedF (L.map FA.f)) w w'):=by
 have C1:=hide (fun v (sv:Stay g w v) (hv:WstE g v) => clastm_any g q d L 9 2 v hv (h.stay sv))
 have C2:=hide (fun v (sv:Stay g w v) (hv:WstE g v) => cflts_any g q d L 4 v hv (h.stay sv))
 have C3:=hide (fun v (sv:Stay g w v) (hv:WstE g v) => cnums_any g q d L 5 v hv (h.stay sv))
 have C4:=hide (fun v (sv:Stay g w v) (hv:WstE g v) => cnums_any g q d L 7 v hv (h.stay sv))
 have HW:=hide hw
 have gl:=hw.lt
 unfold storedF
 clear hw h
 generalize lastV (L.map FA.f) 9 2 = R at C1 ⊢
 obtain ⟨R1,R2,R3⟩:=R
 simp only at C1 ⊢
 generalize (R3 != 0) = DD at C1 ⊢
 generalize floatsP (L.map FA.f) 4 = FL at C2 ⊢
 obtain ⟨F1,F2⟩:=FL
 generalize intsP (L.map FA.f) 5 = NS at C3 ⊢
 obtain ⟨N1,N2⟩:=NS
 generalize intsP (L.map FA.f) 7 = KS at C4 ⊢
 obtain ⟨K1,K2⟩:=KS
 simp only at C2 C3 C4 ⊢
 unfold msV at C1 C2 C3 C4 ⊢
 have A0:=hide (al2p w (Obj.cells #[.slice q L.length d,.pointer (some ⟨g,0,none⟩)] 74) (Obj.cells #[.slice none 0 0,.slice none 0 0,.slice none 0 0,.slice none 0 0,.bool false] 190))
 have X0:=hide (Box.alloc (Box.new w #[.slice q L.length d,.pointer (some ⟨g,0,none⟩)] 74) (Obj.cells #[.slice none 0 0,.slice none 0 0,.slice none 0 0,.slice none 0 0,.bool false] 190))
 have Y0:Hid (Box ((w.alloc (Obj.cells #[.slice q L.length d,.pointer (some ⟨g,0,none⟩)] 74)).alloc (Obj.cells #[.slice none 0 0,.slice none 0 0,.slice none 0 0,.slice none 0 0,.bool false] 190)) (w.heap.size + 1) #[.slice none 0 0,.slice none 0 0,.slice none 0 0,.slice none 0 0,.bool false] 190):=hide (by have h:=Box.new (w.alloc (Obj.cells #[.slice q L.length d,.pointer (some ⟨g,0,none⟩)] 74)) #[.slice none 0 0,.slice none 0 0,.slice none 0 0,.slice none 0 0,.bool false] 190; rw [alloc_size6] at h; exact h)
 go_enter Tryz.func148,Tryz.ntmps148
 go_wp2_with fail
 refine (uh C1 _ (Stay.below (uh A0) (by omega)) ((uh HW).below (uh A0))).mono ?_
 rintro e w1 ⟨a,rfl,hq⟩
 obtain ⟨h1,h2,h3,hr⟩:=uh hq
 obtain ⟨an,awr,ax,ad,aq,ac⟩:=a
 have HF1:=hide h1
 have l0:w.heap.size + 1 < w1.heap.size:=(hr.1.box (uh Y0) (by omega)).lt
 have D1:Hid (Below w1.heap.size w1 ((w1.alloc (Obj.cells #[.int .i64 an,.int .i64 awr,.int .u64 ax,.slice aq ad.length ac] 91)).drew)):=hide (bl_tr (al1p w1 _) (bdrewp _))
 have R1':=hide (((((RE.below (uh A0) (uh HW)).trans hr).trans (RE.below (uh D1) (hr.wst ((uh HW).below (uh A0)))))).eq (f':=bad3 DD) (by rw [no_f3,f3_no]))
 have X1:=hide (hr.1.box (uh X0) (by omega))
 have Y1:=hide (hr.1.box (uh Y0) (by omega))
 have x1:=fun o => ((uh X1).alloc o).cell
 have X1d:=hide ((uh X1).below (uh D1))
 have Y1d:=hide ((uh Y1).below (uh D1))
 have G1:Hid (Box (w1.alloc (Obj.cells #[.int .i64 an,.int .i64 awr,.int .u64 ax,.slice aq ad.length ac] 91)) w1.heap.size #[.int .i64 an,.int .i64 awr,.int .u64 ax,.slice aq ad.length ac] 91):=hide (Box.new w1 _ _)
 have G1d:=hide ((uh G1).below (bdrewp _))
 have HI1:=hide (h2.below (uh D1))
 have HO1:Hid (Off g aq ad.length):=hide (h3 g (by simp; omega))
 have PR:Hid (Off (w.heap.size + 1) aq ad.length):=hide (h3 (w.heap.size + 1) (by simp))
 have xa:=((uh X1).alloc (Obj.cells #[.int .i64 an,.int .i64 awr,.int .u64 ax,.slice aq ad.length ac] 91)).cell
 have xd:=(uh X1d).cell
 have ga:=(uh G1).cell
 have gd:=(uh G1d).cell
 clear hq h1 h2 h3 hr x1 C1
 unfold faV
 simp only
 go_wp2_with fail
 go_region_held3 (fun v => (∀ j,v.cell? ⟨w.heap.size,j,none⟩ = (#[.slice q L.length d,.pointer (some ⟨g,0,none⟩)]:Array Value)[j]?) ∧ (∀ j,v.cell? ⟨w1.heap.size,j,none⟩ = (#[.int .i64 an,.int .i64 awr,.int .u64 ax,.slice aq ad.length ac]:Array Value)[j]?)) (refine ⟨?_,?_⟩ <;> with_reducible assumption)
  (first
   | (go_at_call 145; (refine (uh C4 _ (uh R3').1 ((uh R3').wst (uh HW))).mono ?_; rintro e w4 ⟨v4,rfl,hq⟩; obtain ⟨g4,hr⟩:=uh hq; obtain ⟨q4,d4,e4⟩:=own_form7 g4; subst e4; have R4':=hide ((uh R3').trans hr); have O4:=hide (ownsRow_base g4 (uh R3').1.1.size); have O34:=hide (ownsRow_stay (uh O3) gl hr.1); have O24:=hide (ownsRow_stay (uh O23) gl hr.1); have HI4:=hide ((uh HI3).stay (uh HO1) hr.1); have X4:=hide (hr.1.box (uh X3) (by omega)); have G4:=hide (hr.1.box (uh G3) (by omega)); have Y4:=hide (hr.1.box (uh Y3) (by omega)); have x4:=(uh X4).cell; have g4c:=(uh G4).cell; have y4:=(uh Y4).cell; have z4:=(uh Y4).frozen; have x4s:=(Box.off5 (uh X4) (show w.heap.size ≠ w.heap.size + 1 by omega) (.slice q2 F1.length d2) (.slice q3 N1.length d3) (.slice q4 K1.length d4) (.slice aq ad.length ac) (.bool R2)).cell; have g4s:=(Box.off5 (uh G4) (show w1.heap.size ≠ w.heap.size + 1 by omega) (.slice q2 F1.length d2) (.slice q3 N1.length d3) (.slice q4 K1.length d4) (.slice aq ad.length ac) (.bool R2)).cell; clear hq g4 hr))
   | (go_at_call 145; (refine (uh C3 _ (uh R2').1 ((uh R2').wst (uh HW))).mono ?_; rintro e w3 ⟨v3,rfl,hq⟩; obtain ⟨g3,hr⟩:=uh hq; obtain ⟨q3,d3,e3⟩:=own_form7 g3; subst e3; have R3':=hide ((uh R2').trans hr); have O3:=hide (ownsRow_base g3 (uh R2').1.1.size); have O23:=hide (ownsRow_stay (uh O2) gl hr.1); have HI3:=hide ((uh HI2).stay (uh HO1) hr.1); have X3:=hide (hr.1.box (uh X2) (by omega)); have G3:=hide (hr.1.box (uh G2) (by omega)); have Y3:=hide (hr.1.box (uh Y2) (by omega)); have x3:=(uh X3).cell; have g3c:=(uh G3).cell; clear hq g3 hr))
   | (go_at_call 175; (refine (uh C2 _ (uh R1').1 ((uh R1').wst (uh HW))).mono ?_; rintro e w2 ⟨v2,rfl,hq⟩; obtain ⟨g2,hr⟩:=uh hq; obtain ⟨q2,d2,e2⟩:=own_form7 g2; subst e2; have R2':=hide ((uh R1').trans hr); have O2:=hide (ownsRow_base g2 (uh R1').1.1.size); have HI2:=hide ((uh HI1).stay (uh HO1) hr.1); have X2:=hide (hr.1.box (uh X1d) (by omega)); have G2:=hide (hr.1.box (uh G1d) (by omega)); have Y2:=hide (hr.1.box (uh Y1d) (by omega)); have x2:=(uh X2).cell; have g2c:=(uh G2).cell; clear hq g2 hr)))
 go_wp2_with fail
 have SS:Hid (Stay (w.heap.size + 1) w4 _):=hide (((((Stay.set (w.heap.size + 1) w4 0 (.slice q2 F1.length d2)).trans (Stay.set _ _ 1 (.slice q3 N1.length d3))).trans (Stay.set _ _ 2 (.slice q4 K1.length d4))).trans (Stay.set _ _ 3 (.slice aq ad.length ac))).trans (Stay.set _ _ 4 (.bool R2)))
 have Y5:=hide ((uh Y4).set5 (.slice q2 F1.length d2) (.slice q3 N1.length d3) (.slice q4 K1.length d4) (.slice aq ad.length ac) (.bool R2))
 have R5:=hide ((((((uh R4').setNew (show w.heap.size ≤ w.heap.size + 1 by omega) gl 0 (.slice q2 F1.length d2)).setNew (show w.heap.size ≤ w.heap.size + 1 by omega) gl 1 (.slice q3 N1.length d3)).setNew (show w.heap.size ≤ w.heap.size + 1 by omega) gl 2 (.slice q4 K1.length d4)).setNew (show w.heap.size ≤ w.heap.size + 1 by omega) gl 3 (.slice aq ad.length ac)).setNew (show w.heap.size ≤ w.heap.size + 1 by omega) gl 4 (.bool R2))
 have P2:=hide (ownsRow_off (uh O24) (uh Y4) (by decide) (uh SS))
 have P3:=hide (ownsRow_off (uh O34) (uh Y4) (by decide) (uh SS))
 have P4:=hide (ownsRow_off (uh O4) (uh Y4) (by decide) (uh SS))
 have PI:=hide (((uh HI4).2.2.2).stay7 (uh PR) (uh SS))
 refine bodyPost_ret ?_ rfl ⟨⟨F1,q2,d2,N1,q3,d3,K1,q4,d4,ad,aq,ac,R2⟩,rfl,hide ⟨⟨rfl,rfl,rfl,by rw [← uh HF1]; rfl,rfl⟩,⟨uh P2,uh P3,uh P4,uh PI,uh HO1⟩,uh R5⟩⟩
 simp [results,Tryz.results148,go_sem,(uh Y5).cell,stCells]
theorem decode_of {c:List Int} {L:List Fld} {gb:List Int} {m:ModelD} (hc:c.length ≤ 4194304) (hf:fieldsP c = (L,no3)) (h1:(wholeP L 1).2 = no3) (h7:messageP L 7 = ((gb,true),no3)) (hg:graphP gb = ((m.2.1,m.2.2.1,m.2.2.2.1,m.2.2.2.2.1,m.2.2.2.2.2),no3)) (h8:setsP L = no3) (hm:m.1 = 17):decodeV c = (m,0):=by
 have hfl:fAll [no3,(wholeP L 1).2,no3,bad3 (!true),no3,setsP L] = no3:=by rw [h1,h8]; rfl
 unfold decodeV
 rw [if_neg (by omega),hf]
 simp only [h7,hg,hfl]
 rw [if_neg (by decide),if_neg (by decide),if_neg (by decide)]
 obtain ⟨a,b,c,d,e,f⟩:=m
 simp only at hm ⊢
 rw [hm]
theorem sets_of {L:List Fld} {bs:List (List Int)} (he:eachP L 8 L.length = (bs,no3)) (hb:∀ b ∈ bs,(fieldsP b).2 = no3 ∧ (textP (fieldsP b).1 1).2 = no3 ∧ (wholeP (fieldsP b).1 2).2 = no3) (hv:versF 0 bs = 17):setsP L = no3:=by
 unfold setsP
 rw [he]
 simp only [hv]
 refine fAll_of (fun x hx => ?_)
 rcases List.mem_append.1 hx with hx | hx
 ·rcases List.mem_append.1 hx with hx | hx
  ·simp only [List.mem_cons,List.not_mem_nil,or_false] at hx
   exact hx
  ·obtain ⟨b,hb2,rfl⟩:=List.mem_map.1 hx
   obtain ⟨g1,g2,g3⟩:=hb b hb2
   rw [g1,g2,g3]
   rfl
 ·simp only [List.mem_cons,List.not_mem_nil,or_false] at hx
  rw [hx]
  rfl
theorem set17_bytes:msgB [numF 2 17] = [16,17]:=by decide +kernel
theorem checkM_no {m:ModelD} (h:checkM m = 0) (hodd:(modelW m).2.1 = false):modelW m = no3:=by
 unfold checkM at h
 by_cases h1:(modelW m).1 = true
 ·rw [if_pos h1] at h; exact absurd h (by decide)
 ·rw [if_neg h1] at h
  by_cases h2:(modelW m).2.2 = true
  ·rw [if_pos h2] at h; exact absurd h (by decide)
  ·generalize modelW m = w at h1 h2 hodd
   obtain ⟨a,b,c⟩:=w
   have e1:a = false:=by simpa using h1
   have e2:c = false:=by simpa using h2
   have e3:b = false:=hodd
   subst e1 e2 e3
   rfl
theorem f3_odd (a b:F3):(f3 a b).2.1 = (a.2.1 || b.2.1):=rfl
theorem fAll_odd:∀ {l:List F3},(∀ x ∈ l,x.2.1 = false) → (fAll l).2.1 = false
 | [],_ => rfl
 | x :: r,h => by
   rw [fAll_cons,f3_odd,h x (by simp),fAll_odd (fun y hy => h y (by simp [hy]))]
   rfl
theorem tensW_odd (t:TenD):(tensW t).2.1 = false:=by unfold tensW; split <;> rfl
theorem attrW_odd (x:AttrD):(attrW x).2.1 = false:=by
 unfold attrW
 refine fAll_odd (fun y hy => ?_)
 simp only [List.mem_cons,List.not_mem_nil,or_false] at hy
 rcases hy with h | h | h | h <;> rw [h]
 ·rfl
 ·rfl
 ·rfl
 ·split
  ·rfl
  ·split
   ·exact tensW_odd _
   ·rfl
theorem nodeW_odd (n:NodeD):(nodeW n).2.1 = false:=by
 unfold nodeW
 refine fAll_odd (fun y hy => ?_)
 simp only [List.mem_append,List.mem_cons,List.not_mem_nil,or_false,List.mem_map] at hy
 rcases hy with ((h | ⟨s,_,h⟩) | ⟨s,_,h⟩) | ⟨a,_,h⟩
 ·rcases h with h | h | h | h <;> rw [h] <;> rfl
 ·rw [← h]; rfl
 ·rw [← h]; rfl
 ·rw [← h]; exact attrW_odd a
theorem valuesW_odd (l:List ValD):(valuesW l).2.1 = false:=by
 unfold valuesW
 refine fAll_odd (fun y hy => ?_)
 rcases List.mem_cons.1 hy with h | h
 ·rw [h]; rfl
 ·obtain ⟨v,_,rfl⟩:=List.mem_map.1 h
  unfold valW
  refine fAll_odd (fun y hy => ?_)
  simp only [List.mem_cons,List.not_mem_nil,or_false] at hy
  rcases hy with h | h | h <;> rw [h] <;> rfl
theorem modelW_odd (m:ModelD):(modelW m).2.1 = false:=by
 unfold modelW
 refine fAll_odd (fun y hy => ?_)
 simp only [List.mem_append,List.mem_cons,List.not_mem_nil,or_false,List.mem_map] at hy
 rcases hy with ((h | ⟨n,_,h⟩) | ⟨x,_,h⟩) | h
 ·rcases h with h | h | h <;> rw [h] <;> rfl
 ·rw [← h]; exact nodeW_odd n
 ·rw [← h,f3_odd]; exact (by rw [tensW_odd]; rfl)
 ·rcases h with h | h <;> rw [h] <;> exact valuesW_odd _
theorem encode_ok {m:ModelD} (h:(encodeV m).2 = 0):modelW m = no3 ∧ (msgB (modelF m)).length ≤ 4194304 ∧ encodeV m = (msgB (modelF m),0):=by
 unfold encodeV at h ⊢
 by_cases h1:checkM m = 0
 ·rw [if_pos h1] at h ⊢
  by_cases h2:4194304 < (msgB (modelF m)).length
  ·rw [if_pos h2] at h; exact absurd h (by decide)
  ·rw [if_neg h2]
   exact ⟨checkM_no h1 (modelW_odd m),by omega,rfl⟩
 ·rw [if_neg h1] at h
  exact absurd h h1
theorem graph_le {m:ModelD} (hl:(msgB (modelF m)).length ≤ 4194304):(msgB (graphF m)).length ≤ (msgB (modelF m)).length:=blk_le (l:=modelF m) (num:=7) (by unfold modelF; simp) (by decide) (by decide)
theorem model_wr {m:ModelD} (ho:okM m) (hl:(msgB (modelF m)).length ≤ 4194304):∀ f ∈ modelF m,Wr f:=by
 intro f hf
 have hg:=graph_le hl
 unfold modelF at hf
 simp only [List.mem_cons,List.not_mem_nil,or_false] at hf
 rcases hf with rfl | rfl | rfl
 ·exact wr_num (by decide) (by decide) (by decide) (by decide)
 ·exact wr_blk (by decide) (by decide) (msg_isB7 (graph_wr ho (by omega)) (by omega))
 ·rw [set17_bytes]
  exact wr_blk (by decide) (by decide) (fun c hc => by simp at hc; omega)
theorem sets_one {L:List Fld} (h:allV L 8 = [blkF 8 (msgB [numF 2 17])]) (hl:1 ≤ L.length):setsP L = no3:=by
 refine sets_of (bs:=[msgB [numF 2 17]]) (each_map (xs:=[msgB [numF 2 17]]) (g:=fun b => b) (by rw [h]; rfl) (by simpa using hl)) (fun b hb => ?_) (by decide +kernel)
 simp only [List.mem_cons,List.not_mem_nil,or_false] at hb
 subst hb
 decide +kernel
def Odd7 (u:Fld):Prop:=Wr u ∧ 100 ≤ u.1
theorem odd_pk {u:Fld} (h:Odd7 u) {num:Int} (hn:num < 100):allV [u] num = []:=by
 rw [pk_one,if_neg (by have:=h.2; omega)]
theorem msg_appO (l m:List Fld):msgB (l ++ m) = msgB l ++ msgB m:=by simp [msgB]
theorem skips7 {m:ModelD} {u:Fld} (ho:okM m) (h:(encodeV m).2 = 0) (hu:Odd7 u) (hc:(msgB ([u] ++ [blkF 7 (msgB ([u] ++ graphF m ++ [u]))] ++ [u] ++ [blkF 8 (msgB ([numF 2 17] ++ [u]))])).length ≤ 4194304) :
  decodeV (msgB ([u] ++ [blkF 7 (msgB ([u] ++ graphF m ++ [u]))] ++ [u] ++ [blkF 8 (msgB ([numF 2 17] ++ [u]))])) = (m,0):=by
 obtain ⟨hw,hl,he⟩:=encode_ok h
 have hgl:=graph_le hl
 have hg1:(msgB ([u] ++ graphF m ++ [u])).length ≤ 4194304:=blk_mem (k:=7) (by simp) hc (by decide) (by decide)
 have hg8:(msgB ([numF 2 17] ++ [u])).length ≤ 4194304:=blk_mem (k:=8) (by simp) hc (by decide) (by decide)
 have hgw:∀ f ∈ [u] ++ graphF m ++ [u],Wr f:=fun f hf => by
  simp only [List.mem_append,List.mem_singleton] at hf
  rcases hf with (rfl | hf) | rfl
  ·exact hu.1
  ·exact graph_wr ho (by omega) f hf
  ·exact hu.1
 have h8w:∀ f ∈ [numF 2 17] ++ [u],Wr f:=fun f hf => by
  simp only [List.mem_append,List.mem_singleton] at hf
  rcases hf with rfl | rfl
  ·exact wr_num (by decide) (by decide) (by decide) (by decide)
  ·exact hu.1
 have hf:=fields_msg (l:=[u] ++ [blkF 7 (msgB ([u] ++ graphF m ++ [u]))] ++ [u] ++ [blkF 8 (msgB ([numF 2 17] ++ [u]))]) (fun f hf => by
  simp only [List.mem_append,List.mem_singleton] at hf
  rcases hf with ((rfl | rfl) | rfl) | rfl
  ·exact hu.1
  ·exact wr_blk (by decide) (by decide) (msg_isB7 hgw (by omega))
  ·exact hu.1
  ·exact wr_blk (by decide) (by decide) (msg_isB7 h8w (by omega))) hc
 have hgf:=fields_msg hgw hg1
 have h8f:=fields_msg h8w hg8
 have p:∀ num:Int,num < 100 → allV ([u] ++ [blkF 7 (msgB ([u] ++ graphF m ++ [u]))] ++ [u] ++ [blkF 8 (msgB ([numF 2 17] ++ [u]))]) num = (if 7 = num then [blkF 7 (msgB ([u] ++ graphF m ++ [u]))] else []) ++ (if 8 = num then [blkF 8 (msgB ([numF 2 17] ++ [u]))] else []):=fun num hn => by
  rw [pk_app,pk_app,pk_app,odd_pk hu hn,pk_one,pk_one,List.nil_append,List.append_nil]
  rfl
 refine decode_of hc hf ?_ (message_one (by rw [p _ (by decide)]; simp)) (graph_of ho hw (by omega) hgf (fun num hn => ?_)) ?_ (modelW_no hw).1
 ·rw [whole_none (by rw [p _ (by decide)]; simp)]
 ·have hn2:num < 100:=by omega
  rw [pk_app,pk_app,odd_pk hu hn2]
  simp
 ·have p1:allV ([numF 2 17] ++ [u]) 1 = []:=by rw [pk_app,odd_pk hu (by decide),pk_one]; rfl
  have p2:allV ([numF 2 17] ++ [u]) 2 = [numF 2 17]:=by rw [pk_app,odd_pk hu (by decide),pk_one]; rfl
  refine sets_of (bs:=[msgB ([numF 2 17] ++ [u])]) (each_map (xs:=[msgB ([numF 2 17] ++ [u])]) (g:=fun b => b) (by rw [p _ (by decide)]; simp) (by simp)) (fun b hb => ?_) ?_
  ·simp only [List.mem_cons,List.not_mem_nil,or_false] at hb
   subst hb
   rw [h8f]
   exact ⟨rfl,by rw [text_none p1],by rw [whole_one p2]⟩
  ·unfold versF
   rw [h8f]
   simp only
   rw [text_none p1,whole_one p2]
   decide +kernel
theorem set3_bytes:msgB [blkF 1 [120],numF 2 3] = [10,1,120,16,3]:=by decide +kernel
theorem splits7 {m:ModelD} {l1 l2:List Fld} (ho:okM m) (h:(encodeV m).2 = 0) (hs:l1 ++ l2 = graphF m) (hc:(msgB [blkF 8 (msgB [numF 2 17]),blkF 7 (msgB l1),blkF 8 (msgB [blkF 1 [120],numF 2 3]),blkF 7 (msgB l2)]).length ≤ 4194304) :
  decodeV (msgB [blkF 8 (msgB [numF 2 17]),blkF 7 (msgB l1),blkF 8 (msgB [blkF 1 [120],numF 2 3]),blkF 7 (msgB l2)]) = (m,0):=by
 obtain ⟨hw,hl,he⟩:=encode_ok h
 have hgl:=graph_le hl
 have hgw:=graph_wr ho (by omega:(msgB (graphF m)).length ≤ 4194304)
 have w1:∀ f ∈ l1,Wr f:=fun f hf => hgw f (by rw [← hs]; exact List.mem_append_left _ hf)
 have w2:∀ f ∈ l2,Wr f:=fun f hf => hgw f (by rw [← hs]; exact List.mem_append_right _ hf)
 have g1:(msgB l1).length ≤ 4194304:=blk_mem (k:=7) (by simp) hc (by decide) (by decide)
 have g2:(msgB l2).length ≤ 4194304:=blk_mem (k:=7) (by simp) hc (by decide) (by decide)
 have hf:=fields_msg (l:=[blkF 8 (msgB [numF 2 17]),blkF 7 (msgB l1),blkF 8 (msgB [blkF 1 [120],numF 2 3]),blkF 7 (msgB l2)]) (fun f hf => by
  simp only [List.mem_cons,List.not_mem_nil,or_false] at hf
  rcases hf with rfl | rfl | rfl | rfl
  ·rw [set17_bytes]; exact wr_blk (by decide) (by decide) (fun c hc => by simp at hc; omega)
  ·exact wr_blk (by decide) (by decide) (msg_isB7 w1 (by omega))
  ·rw [set3_bytes]; exact wr_blk (by decide) (by decide) (fun c hc => by simp at hc; omega)
  ·exact wr_blk (by decide) (by decide) (msg_isB7 w2 (by omega))) hc
 have hgf:=fields_msg hgw (by omega:(msgB (graphF m)).length ≤ 4194304)
 have p7:allV [blkF 8 (msgB [numF 2 17]),blkF 7 (msgB l1),blkF 8 (msgB [blkF 1 [120],numF 2 3]),blkF 7 (msgB l2)] 7 = [blkF 7 (msgB l1),blkF 7 (msgB l2)]:=by rw [pk_cons,pk_cons,pk_cons,pk_one]; simp [blkF]
 have p8:allV [blkF 8 (msgB [numF 2 17]),blkF 7 (msgB l1),blkF 8 (msgB [blkF 1 [120],numF 2 3]),blkF 7 (msgB l2)] 8 = [blkF 8 (msgB [numF 2 17]),blkF 8 (msgB [blkF 1 [120],numF 2 3])]:=by rw [pk_cons,pk_cons,pk_cons,pk_one]; simp [blkF]
 have p1:allV [blkF 8 (msgB [numF 2 17]),blkF 7 (msgB l1),blkF 8 (msgB [blkF 1 [120],numF 2 3]),blkF 7 (msgB l2)] 1 = []:=by rw [pk_cons,pk_cons,pk_cons,pk_one]; simp [blkF]
 have h7:messageP [blkF 8 (msgB [numF 2 17]),blkF 7 (msgB l1),blkF 8 (msgB [blkF 1 [120],numF 2 3]),blkF 7 (msgB l2)] 7 = ((msgB (graphF m),true),no3):=by
  unfold messageP joinV
  rw [p7,← hs,msg_appO]
  simp [blkF,bad3,no3]
 refine decode_of hc hf (by rw [whole_none p1]) h7 (graph_of ho hw (by omega) hgf (fun _ _ => rfl)) ?_ (modelW_no hw).1
 refine sets_of (bs:=[msgB [numF 2 17],msgB [blkF 1 [120],numF 2 3]]) (each_map (xs:=[msgB [numF 2 17],msgB [blkF 1 [120],numF 2 3]]) (g:=fun b => b) (by rw [p8]; rfl) (by simp)) (fun b hb => ?_) (by decide +kernel)
 simp only [List.mem_cons,List.not_mem_nil,or_false] at hb
 rcases hb with rfl | rfl
 ·decide +kernel
 ·decide +kernel
def turnF (m:ModelD):List Fld:=allV (graphF m) 12 ++ allV (graphF m) 11 ++ allV (graphF m) 5 ++ allV (graphF m) 2 ++ allV (graphF m) 1
theorem pk_pk (l:List Fld) (a b:Int):allV (allV l a) b = if a = b then allV l a else []:=by
 unfold allV
 rw [List.filter_filter]
 by_cases h:a = b
 ·subst h
  rw [if_pos rfl]
  congr 1
  funext f
  simp
 ·rw [if_neg h,List.filter_eq_nil_iff]
  intro f _
  simp
  omega
theorem turns7 {m:ModelD} (ho:okM m) (h:(encodeV m).2 = 0) (hc:(msgB [blkF 8 (msgB [numF 2 17]),blkF 7 (msgB (turnF m))]).length ≤ 4194304):decodeV (msgB [blkF 8 (msgB [numF 2 17]),blkF 7 (msgB (turnF m))]) = (m,0):=by
 obtain ⟨hw,hl,he⟩:=encode_ok h
 have hgl:=graph_le hl
 have hgw:=graph_wr ho (by omega:(msgB (graphF m)).length ≤ 4194304)
 have htw:∀ f ∈ turnF m,Wr f:=fun f hf => by
  unfold turnF at hf
  simp only [List.mem_append] at hf
  rcases hf with (((h | h) | h) | h) | h <;> exact hgw f (List.mem_filter.1 h).1
 have g1:(msgB (turnF m)).length ≤ 4194304:=blk_mem (k:=7) (by simp) hc (by decide) (by decide)
 have hf:=fields_msg (l:=[blkF 8 (msgB [numF 2 17]),blkF 7 (msgB (turnF m))]) (fun f hf => by
  simp only [List.mem_cons,List.not_mem_nil,or_false] at hf
  rcases hf with rfl | rfl
  ·rw [set17_bytes]; exact wr_blk (by decide) (by decide) (fun c hc => by simp at hc; omega)
  ·exact wr_blk (by decide) (by decide) (msg_isB7 htw (by omega))) hc
 have htf:=fields_msg htw g1
 have p:∀ num:Int,allV [blkF 8 (msgB [numF 2 17]),blkF 7 (msgB (turnF m))] num = (if 8 = num then [blkF 8 (msgB [numF 2 17])] else []) ++ (if 7 = num then [blkF 7 (msgB (turnF m))] else []):=fun num => by rw [pk_cons,pk_one]; rfl
 refine decode_of hc hf (by rw [whole_none (by rw [p]; simp)]) (message_one (by rw [p]; simp)) (graph_of ho hw (by omega) htf (fun num hn => ?_)) (sets_one (by rw [p]; simp) (by simp)) (modelW_no hw).1
 unfold turnF
 rw [pk_app,pk_app,pk_app,pk_app,pk_pk,pk_pk,pk_pk,pk_pk,pk_pk]
 rcases hn with rfl | rfl | rfl | rfl | rfl | rfl
 ·simp
 ·simp
 ·simp
 ·simp
 ·simp
 ·rw [graph_pk m 15]; simp
theorem i64w_B (x:Int):i64B (i64w x):=by
 unfold i64B i64w
 rw [IntKind.wrap_i64]
 omega
def OkL (l:List Fld):Prop:=∀ f ∈ l,okF f
theorem fields_ok {b:List Int} (hb:isB b):OkL (fieldsP b).1:=by
 intro f hf
 unfold fieldsP readV at hf
 split at hf
 ·cases hf
 ·cases hl:readL b with
  | none => rw [hl] at hf; cases hf
  | some l =>
    rw [hl] at hf
    exact ((readF_may _ b l hb hl).1 f hf).2
theorem all_ok {l:List Fld} (h:OkL l) (num:Int):OkL (allV l num):=fun f hf => h f (List.mem_filter.1 hf).1
theorem noFld_ok:okF noFld:=⟨by decide,by decide,fun c hc => by cases hc⟩
theorem getD_ok {l:List Fld} (h:OkL l) (n:Nat):okF (l.getD n noFld):=by
 rw [List.getD_eq_getElem?_getD]
 cases hg:l[n]? with
 | none => exact noFld_ok
 | some f => exact h f (List.mem_of_getElem? hg)
theorem last_ok {l:List Fld} (h:OkL l) (num wire:Int):okF (lastV l num wire).1:=by
 unfold lastV
 split
 ·exact noFld_ok
 ·split
  ·exact noFld_ok
  ·exact getD_ok (all_ok h num) _
theorem message_ok {l:List Fld} (h:OkL l) (num:Int):isB (messageP l num).1.1:=by
 unfold messageP joinV
 simp only
 split
 ·exact fun c hc => by cases hc
 ·exact isB_flatO (fun f hf => (all_ok h num f hf).2.2)
theorem each_ok {l:List Fld} (h:OkL l) (num:Int) (most:Nat):∀ b ∈ (eachP l num most).1,isB b:=by
 intro b hb
 obtain ⟨f,hf,rfl⟩:=List.mem_map.1 hb
 exact (all_ok h num f hf).2.2
theorem ints_ok (l:List Fld) (num:Int):∀ x ∈ (intsP l num).1,i64B x:=by
 intro x hx
 obtain ⟨y,_,rfl⟩:=List.mem_map.1 hx
 exact i64w_B y
theorem le4 {d:List Int} (h:isB d) (hl:d.length ≤ 4):0 ≤ leV d ∧ leV d < 4294967296:=by
 obtain ⟨h0,h1⟩:=leV_range d h
 refine ⟨h0,Int.lt_of_lt_of_le h1 ?_⟩
 have:(256:Int) ^ d.length ≤ 256 ^ 4:=by
  have:=Nat.pow_le_pow_right (show 0 < 256 by decide) hl
  have h3:((256 ^ d.length:Nat):Int) ≤ ((256 ^ 4:Nat):Int):=Int.ofNat_le.2 this
  simpa using h3
 have e:(256:Int) ^ 4 = 4294967296:=by decide
 omega
theorem allOr_all {g:Fld → Option (List Int)} {p:Int → Prop}:∀ {l:List Fld} {xs:List Int},(∀ f ∈ l,∀ ys,g f = some ys → ∀ y ∈ ys,p y) → allOr g l = some xs → ∀ y ∈ xs,p y
 | [],xs,_,h => by simp only [allOr,Option.some.injEq] at h; subst h; intro y hy; cases hy
 | f :: r,xs,hp,h => by
   simp only [allOr] at h
   cases hg:g f with
   | none => rw [hg] at h; cases h
   | some a =>
     rw [hg] at h
     simp only at h
     cases hr:allOr g r with
     | none => rw [hr] at h; cases h
     | some b =>
       rw [hr] at h
       simp only [Option.map_some,Option.some.injEq] at h
       subst h
       intro y hy
       rcases List.mem_append.1 hy with h1 | h1
       ·exact hp f (by simp) a hg y h1
       ·exact allOr_all (fun f' hf' => hp f' (by simp [hf'])) hr y h1
theorem floats_ok {l:List Fld} (h:OkL l) (num:Int):∀ x ∈ (floatsP l num).1,0 ≤ x ∧ x < 4294967296:=by
 intro x hx
 unfold floatsP listV at hx
 cases hr:allOr fix1 (allV l num) with
 | none => rw [hr] at hx; cases hx
 | some xs =>
   rw [hr] at hx
   refine allOr_all (p:=fun x => 0 ≤ x ∧ x < 4294967296) (fun f hf ys hy y hy2 => ?_) hr x hx
   have hfo:=all_ok h num f hf
   unfold fix1 at hy
   split at hy
   ·simp only [Option.some.injEq] at hy; subst hy
    simp only [List.mem_singleton] at hy2
    omega
   ·split at hy
    ·simp only [Option.some.injEq] at hy; subst hy
     unfold fours at hy2
     obtain ⟨i,_,rfl⟩:=List.mem_map.1 hy2
     exact le4 (isB_take (isB_drop hfo.2.2 _) 4) (by simp; omega)
    ·cases hy
theorem no_iff (a b:F3):f3 a b = no3 ↔ a = no3 ∧ b = no3:=⟨f3_eq_no,fun h => by rw [h.1,h.2]; rfl⟩
theorem no_cons (x:F3) (r:List F3):fAll (x :: r) = no3 ↔ x = no3 ∧ fAll r = no3:=by rw [fAll_cons,no_iff]
theorem no_nil:fAll [] = no3:=rfl
theorem no_app (l m:List F3):fAll (l ++ m) = no3 ↔ fAll l = no3 ∧ fAll m = no3:=by rw [fAll_append,no_iff]
theorem no_bad (b:Bool):bad3 b = no3 ↔ b = false:=by cases b <;> simp [bad3,no3]
theorem no_odd (b:Bool):odd3 b = no3 ↔ b = false:=by cases b <;> simp [odd3,no3]
theorem no_big (b:Bool):big3 b = no3 ↔ b = false:=by cases b <;> simp [big3,no3]
theorem no_map {α:Type} (F:α → F3) (l:List α):fAll (l.map F) = no3 ↔ ∀ x ∈ l,F x = no3 :=
 ⟨fun h x hx => fAll_no h _ (List.mem_map.2 ⟨x,hx,rfl⟩),fun h => by
  induction l with
  | nil => rfl
  | cons x r ih => rw [List.map_cons,no_cons]; exact ⟨h x (by simp),ih (fun y hy => h y (by simp [hy]))⟩⟩
def trV (l:List Int):List Bool:=if truthsOK l = true then l.map (· == 1) else []
def stE (kind n:Int) (fl sm nu rw:List Int) (isR:Bool):Ten × Bool :=
 if isR = true then
  if 0 < fl.length + sm.length + nu.length ∨ (rw.length:Int) ≠ n * widthV kind then (noTen,false)
  else if kind = 1 then ((1,[],(List.range n.toNat).map (fun i => (fun x => x % 4294967296) (atP 4 rw i)),[],[]),true)
  else if kind = 7 then ((7,[],[],(List.range n.toNat).map (fun i => i64w (atP 8 rw i)),[]),true)
  else ((9,[],[],[],trV ((List.range n.toNat).map (fun i => i64w (atP 1 rw i)))),truthsOK ((List.range n.toNat).map (fun i => i64w (atP 1 rw i))))
 else if kind = 1 then ((1,[],fl,[],[]),decide ((fl.length:Int) = n ∧ sm.length = 0 ∧ nu.length = 0))
 else if kind = 7 then ((7,[],[],nu,[]),decide ((nu.length:Int) = n ∧ fl.length = 0 ∧ sm.length = 0))
 else ((9,[],[],[],trV sm),decide (truthsOK sm = true ∧ (sm.length:Int) = n ∧ fl.length = 0 ∧ nu.length = 0))
def stL (l:List Fld):Ten × Bool:=stE (wholeP l 2).1 (countV (intsP l 1).1).1 (floatsP l 4).1 (intsP l 5).1 (intsP l 7).1 (lastV l 9 2).1.2.2.2 (lastV l 9 2).2.1
def tensorBF (l:List Fld):F3 :=
 f3 (f3 (f3 (f3 (f3 (f3 (f3 (f3 (f3 (f3 (wholeP l 2).2 (bad3 ((wholeP l 2).1 == 0))) (odd3 (widthV (wholeP l 2).1 == 0))) (bad3 ((lastV l 3 2).2.2 != 0))) (odd3 (lastV l 3 2).2.1)) (wholeP l 14).2) (odd3 ((wholeP l 14).1 != 0))) (nameP l 8).2) (intsP l 1).2) (dimsP (intsP l 1).1).2) (storedF l)
def tensorOn (l:List Fld):Bool:=(countV (intsP l 1).1).2 == 0 && widthV (wholeP l 2).1 != 0
def tensorCF (l:List Fld):F3:=f3 (tensorBF l) (if tensorOn l = true then bad3 (!(stL l).2) else no3)
def tensorC (l:List Fld):InitD:=((nameP l 8).1,((stL l).1.1,(intsP l 1).1,(stL l).1.2.2))
def dimC (b:List Int):Int:=(wholeP (fieldsP b).1 1).1
def dimCF (b:List Int):F3:=f3 (wholeP (fieldsP b).1 1).2 (odd3 (!(lastV (fieldsP b).1 1 0).2.1))
def inL (l:List Fld) (num:Int):List Fld:=(fieldsP (messageP l num).1.1).1
def inF (l:List Fld) (num:Int):F3:=f3 (messageP l num).2 (fieldsP (messageP l num).1.1).2
def inIs (l:List Fld) (num:Int):Bool:=(messageP l num).1.2
def msF (l:List Fld) (num:Int) (F:List Fld → F3):F3:=f3 (bad3 ((allV l num).any fun f => f.2.1 != 2)) (fAll ((dsV l num).map fun b => f3 (fieldsP b).2 (F (fieldsP b).1)))
def valueC (l:List Fld):ValD:=((nameP l 1).1,(wholeP (inL (inL l 2) 1) 1).1,(dsV (inL (inL (inL l 2) 1) 2) 1).map dimC)
def valueCF (l:List Fld):F3 :=
 f3 (f3 (f3 (f3 (f3 (f3 (f3 (f3 (f3 (f3 (inF l 2) (bad3 (!inIs l 2))) (inF (inL l 2) 1)) (odd3 (!inIs (inL l 2) 1))) (inF (inL (inL l 2) 1) 2)) (odd3 (!inIs (inL (inL l 2) 1) 2))) (nameP l 1).2) (wholeP (inL (inL l 2) 1) 1).2)
  (f3 (bad3 ((allV (inL (inL (inL l 2) 1) 2) 1).any fun f => f.2.1 != 2)) (fAll ((dsV (inL (inL (inL l 2) 1) 2) 1).map fun b => f3 (fieldsP b).2 (dimCF b))))) (odd3 (widthV (wholeP (inL (inL l 2) 1) 1).1 == 0))) (dimsP ((dsV (inL (inL (inL l 2) 1) 2) 1).map dimC)).2
def attrC (l:List Fld):AttrD :=
 let k:=(wholeP l 20).1
 let t:TenD:=if inIs l 5 = true then (tensorC (inL l 5)).2 else noTen
 if k = 1 then ((nameP l 1).1,1,(lastF l 2 5).1.2.2.1 % 4294967296,0,[],noTen,[],[])
 else if k = 2 then ((nameP l 1).1,2,0,(wholeP l 3).1,[],noTen,[],[])
 else if k = 3 then ((nameP l 1).1,3,0,0,(textP l 4).1,noTen,[],[])
 else if k = 4 then ((nameP l 1).1,4,0,0,[],t,[],[])
 else if k = 6 then ((nameP l 1).1,6,0,0,[],noTen,(floatsP l 7).1,[])
 else if k = 7 then ((nameP l 1).1,7,0,0,[],noTen,[],(intsP l 8).1)
 else ([],0,0,0,[],noTen,[],[])
def attrCF (l:List Fld):F3 :=
 f3 (f3 (f3 (f3 (f3 (f3 (f3 (f3 (f3 (f3 (f3 (f3 (f3 (f3 (nameP l 1).2 (wholeP l 20).2) (lastF l 2 5).2) (wholeP l 3).2) (textP l 4).2) (floatsP l 7).2) (intsP l 8).2) (big3 (decide (4096 < (textP l 4).1.length)))) (big3 (decide (4096 < (floatsP l 7).1.length)))) (big3 (decide (4096 < (intsP l 8).1.length)))) (inF l 5)) (bad3 (!inIs l 5 && (wholeP l 20).1 == 4))) (if inIs l 5 = true then tensorCF (inL l 5) else no3)) (odd3 (!kindB (wholeP l 20).1))) (bad3 ((wholeP l 20).1 == 0))
def nameF (l:List Fld) (num:Int):F3:=f3 (bad3 ((allV l num).any fun f => f.2.1 != 2)) (fAll ((dsV l num).map fun b => big3 (decide (256 < b.length))))
def nodeC (l:List Fld):NodeD:=((nameP l 4).1,(nameP l 3).1,dsV l 1,dsV l 2,(dsV l 5).map fun b => attrC (fieldsP b).1)
def nodeCF (l:List Fld):F3 :=
 f3 (f3 (f3 (f3 (f3 (f3 (f3 (f3 (f3 (f3 (nameP l 4).2 (nameP l 3).2) (nameF l 1)) (nameF l 2)) (msF l 5 attrCF)) (bad3 (decide ((nameP l 4).1 = [])))) (textP l 7).2) (odd3 (!oursB (textP l 7).1))) (big3 (decide (64 < (dsV l 1).length)))) (big3 (decide (64 < (dsV l 2).length)))) (big3 (decide (64 < (dsV l 5).length)))
def graphC (l:List Fld):ModelD:=(17,(nameP l 2).1,(dsV l 1).map (fun b => nodeC (fieldsP b).1),(dsV l 5).map (fun b => tensorC (fieldsP b).1),(dsV l 11).map (fun b => valueC (fieldsP b).1),(dsV l 12).map (fun b => valueC (fieldsP b).1))
def graphCF (l:List Fld):F3 :=
 f3 (f3 (f3 (f3 (f3 (f3 (f3 (f3 (f3 (f3 (bad3 ((lastV l 15 2).2.2 != 0)) (odd3 (lastV l 15 2).2.1)) (nameP l 2).2) (msF l 1 nodeCF)) (msF l 5 tensorCF)) (msF l 11 valueCF)) (msF l 12 valueCF)) (big3 (decide (1024 < (dsV l 1).length)))) (big3 (decide (1024 < (dsV l 5).length)))) (big3 (decide (64 < (dsV l 11).length)))) (big3 (decide (64 < (dsV l 12).length)))
def setCF (l:List Fld):F3:=f3 (textP l 1).2 (wholeP l 2).2
def modelCF (l:List Fld):F3:=f3 (f3 (f3 (f3 (f3 (wholeP l 1).2 (msF l 8 setCF)) (odd3 (!(versF 0 (dsV l 8) == 17)))) (inF l 7)) (bad3 (!inIs l 7))) (graphCF (inL l 7))
def decodeF (b:List Int):F3:=f3 (fieldsP b).2 (modelCF (fieldsP b).1)
theorem last_no (l:List Fld) (num:Int):bad3 ((lastV l num 2).2.2 != 0) = no3 ↔ (eachP l num l.length).2 = no3:=by
 have hl:¬ l.length < (allV l num).length:=by
  have:=List.length_filter_le (fun f:Fld => f.1 == num) l
  unfold allV; omega
 unfold eachP lastV
 simp only
 rw [no_iff,no_bad,no_bad,no_big]
 by_cases h:(allV l num).any (fun f => f.2.1 != 2) = true
 ·simp [h]
 ·rw [if_neg h]
  simp only [Bool.not_eq_true] at h
  split <;> simp [h,hl]
theorem last_is {l:List Fld} {num:Int} (h:(lastV l num 2).2.2 = 0):(lastV l num 2).2.1 = decide (0 < (allV l num).length) ∧ (0 < (allV l num).length → (lastV l num 2).1 = (allV l num).getD ((allV l num).length - 1) noFld):=by
 unfold lastV at h ⊢
 by_cases h1:(allV l num).any (fun f => f.2.1 != 2) = true
 ·rw [if_pos h1] at h; exact absurd h (by decide)
 ·rw [if_neg h1]
  by_cases h2:(allV l num).length = 0
  ·rw [if_pos h2]; simp [h2]
  ·rw [if_neg h2]; simp; omega
theorem ds_each (l:List Fld) (num:Int) (most:Nat):(eachP l num most).1 = dsV l num:=rfl
theorem ds_len (l:List Fld) (num:Int):(dsV l num).length = (allV l num).length:=by unfold dsV; rw [List.length_map]
theorem width_known (k:Int):(widthV k == 0) = !knownB k:=by
 unfold widthV knownB
 by_cases h1:k = 1
 ·subst h1; rfl
 by_cases h7:k = 7
 ·subst h7; rfl
 by_cases h9:k = 9
 ·subst h9; rfl
 rw [if_neg h1,if_neg h7,if_neg h9]
 have e1:(k == 1) = false:=by simpa using h1
 have e7:(k == 7) = false:=by simpa using h7
 have e9:(k == 9) = false:=by simpa using h9
 rw [e1,e7,e9]; rfl
theorem at1 {rw:List Int} (h:isB rw) (i:Nat):0 ≤ atP 1 rw i ∧ atP 1 rw i < 256:=by
 unfold atP
 have hb:=isB_take (isB_drop h (i * 1)) 1
 have hl:((rw.drop (i * 1)).take 1).length ≤ 1:=by rw [List.length_take]; omega
 generalize (rw.drop (i * 1)).take 1 = s at hb hl
 match s,hb,hl with
 | [],_,_ => simp [leV]
 | [c],hb,_ => have:=hb c (by simp); simp [leV]; omega
 | _ :: _ :: _,_,hl => simp at hl
theorem i64_small {x:Int} (h0:0 ≤ x) (h1:x < 256):i64w x = x:=by
 unfold i64w
 rw [IntKind.wrap_i64]
 omega
theorem truths_iff {l:List Int}:truthsOK l = true ↔ l.any (fun x => x != 0 && x != 1) = false:=by
 unfold truthsOK
 cases l.any (fun x => x != 0 && x != 1) <;> simp
theorem elem_eq {l:List Fld} (hl:OkL l) {t n:Int} (hk:knownB t = true) (hn:0 ≤ n) (h9:(lastV l 9 2).2.2 = 0) :
  ((f3 (floatsP l 4).2 (f3 (intsP l 5).2 (intsP l 7).2) = no3 ∧ (stE t n (floatsP l 4).1 (intsP l 5).1 (intsP l 7).1 (lastV l 9 2).1.2.2.2 (lastV l 9 2).2.1).2 = true) ↔ (elementsP t n l).2 = no3) ∧
   ((elementsP t n l).2 = no3 → (stE t n (floatsP l 4).1 (intsP l 5).1 (intsP l 7).1 (lastV l 9 2).1.2.2.2 (lastV l 9 2).2.1).1 = (t,[],(elementsP t n l).1)):=by
 obtain ⟨i1,i2⟩:=last_is h9
 have hB:isB (lastV l 9 2).1.2.2.2:=(last_ok hl 9 2).2.2
 unfold elementsP
 simp only
 generalize floatsP l 4 = f
 generalize intsP l 5 = s
 generalize intsP l 7 = u
 by_cases hr:0 < (allV l 9).length
 ·rw [if_pos hr,i1,decide_eq_true hr,← i2 hr]
  generalize (lastV l 9 2).1.2.2.2 = rw at hB
  unfold stE
  rw [if_pos rfl]
  by_cases ha:0 < f.1.length + s.1.length + u.1.length
  ·rw [if_pos (.inl ha)]
   simp only [no_iff,no_bad,decide_eq_true ha]
   simp
  ·rw [decide_eq_false ha]
   have hz:(0 < f.1.length + s.1.length + u.1.length ∨ (rw.length:Int) ≠ n * widthV t) ↔ ¬ (rw.length:Int) = n * widthV t:=⟨fun h => h.elim (fun x => absurd x ha) id,.inr⟩
   rcases known_cases hk with rfl | rfl | rfl
   ·have hw:widthV 1 = 4:=rfl
    have hs:((sizeP 1:Nat):Int) = 4:=rfl
    rw [hw] at hz
    rw [hw]
    unfold rawP
    rw [hs]
    by_cases he:(rw.length:Int) = n * 4
    ·rw [if_neg (by rw [hz]; exact fun h => h he),if_pos he]
     rw [if_pos rfl,if_pos rfl,List.map_map]
     simp only [no_iff,no_bad]
     exact ⟨by simp [no3],fun _ => rfl⟩
    ·rw [if_pos (by rw [hz]; exact he),if_neg he]
     simp only [no_iff,no_bad]
     simp
   ·have hw:widthV 7 = 8:=rfl
    have hs:((sizeP 7:Nat):Int) = 8:=rfl
    rw [hw] at hz
    rw [hw]
    unfold rawP
    rw [hs]
    by_cases he:(rw.length:Int) = n * 8
    ·rw [if_neg (by rw [hz]; exact fun h => h he),if_pos he]
     rw [if_neg (by decide),if_pos rfl,if_neg (by decide),if_pos rfl,List.map_map]
     simp only [no_iff,no_bad]
     exact ⟨by simp [no3],fun _ => rfl⟩
    ·rw [if_pos (by rw [hz]; exact he),if_neg he]
     simp only [no_iff,no_bad]
     simp
   ·have hw:widthV 9 = 1:=rfl
    have hs:((sizeP 9:Nat):Int) = 1:=rfl
    rw [hw] at hz
    rw [hw]
    unfold rawP
    rw [hs]
    by_cases he:(rw.length:Int) = n * 1
    ·rw [if_neg (by rw [hz]; exact fun h => h he),if_pos he]
     rw [if_neg (by decide),if_neg (by decide),if_neg (by decide),if_neg (by decide)]
     simp only [no_iff,no_bad]
     have hx:(List.range n.toNat).map (fun i => i64w (atP 1 rw i)) = (List.range n.toNat).map (atP (sizeP 9) rw):=List.map_congr_left (fun i _ => i64_small (at1 hB i).1 (at1 hB i).2)
     rw [hx]
     have hp:∀ x ∈ (List.range n.toNat).map (atP (sizeP 9) rw),0 ≤ x ∧ x < 256:=fun x hx => by
      obtain ⟨i,_,rfl⟩:=List.mem_map.1 hx
      exact at1 hB i
     generalize (List.range n.toNat).map (atP (sizeP 9) rw) = xs at hp
     have hq:truthsOK xs = true ↔ xs.any (fun x => decide (1 < x)) = false:=by
      rw [truths_iff]
      simp only [List.any_eq_false]
      constructor
      ·intro h x hx
       have:=h x hx
       have:=hp x hx
       simp at *
       omega
      ·intro h x hx
       have:=h x hx
       have:=hp x hx
       simp at *
       omega
     refine ⟨by rw [hq]; simp,fun h => ?_⟩
     have h1:truthsOK xs = true:=hq.2 h.2.2
     unfold trV
     rw [if_pos h1]
    ·rw [if_pos (by rw [hz]; exact he),if_neg he]
     simp only [no_iff,no_bad]
     simp
 ·rw [if_neg hr,i1,decide_eq_false hr]
  generalize (lastV l 9 2).1.2.2.2 = rw at hB
  unfold stE
  rw [if_neg (by decide)]
  rcases known_cases hk with rfl | rfl | rfl
  ·rw [if_pos rfl,if_pos rfl]
   simp only [no_iff,no_bad,decide_eq_true_eq,decide_eq_false_iff_not]
   refine ⟨⟨fun h => ⟨h.1,by have:=h.2; omega⟩,fun h => ⟨h.1,by have:=h.2; omega⟩⟩,fun _ => by trivial⟩
  ·rw [if_neg (by decide),if_pos rfl,if_neg (by decide),if_pos rfl]
   simp only [no_iff,no_bad,decide_eq_true_eq,decide_eq_false_iff_not]
   refine ⟨⟨fun h => ⟨h.1,by have:=h.2; omega⟩,fun h => ⟨h.1,by have:=h.2; omega⟩⟩,fun _ => by trivial⟩
  ·rw [if_neg (by decide),if_neg (by decide),if_neg (by decide),if_neg (by decide)]
   unfold boolsP
   simp only [no_iff,no_bad,decide_eq_true_eq,decide_eq_false_iff_not,← truths_iff]
   refine ⟨⟨fun h => ⟨h.1,h.2.1,by have:=h.2.2; omega⟩,fun h => ⟨h.1,h.2.1,by have:=h.2.2; omega⟩⟩,fun h => ?_⟩
   unfold trV
   rw [if_pos h.2.1]
theorem dims_no (d:List Int):(dimsP d).2 = no3 ↔ (countV d).2 = 0:=by
 unfold dimsP
 simp only [no_iff,no_bad,no_big]
 rcases count_cases d with h | h | h <;> simp [h]
theorem len_ds (l:List Fld) (num:Int):(eachP l num l.length).1.length = (allV l num).length:=by unfold eachP; simp
theorem last_none2 {l:List Fld} {num:Int} (h:(lastV l num 2).2.2 = 0):(lastV l num 2).2.1 = false ↔ (allV l num).length = 0:=by
 rw [(last_is h).1]; simp
theorem tensor_eq {b:List Int} (hb:isB b):(f3 (fieldsP b).2 (tensorCF (fieldsP b).1) = no3 ↔ (tensorP b).2 = no3) ∧ ((tensorP b).2 = no3 → tensorC (fieldsP b).1 = (tensorP b).1):=by
 have hl:=fields_ok hb
 unfold tensorP
 simp only
 generalize fieldsP b = F at hl
 obtain ⟨l,fb⟩:=F
 simp only at hl ⊢
 have hd:(dimsP (intsP l 1).1).1.1 = (intsP l 1).1:=rfl
 have hd2:(dimsP (intsP l 1).1).1.2 = ((countV (intsP l 1).1).2 == 0):=rfl
 have hon:tensorOn l = ((dimsP (intsP l 1).1).1.2 && knownB (wholeP l 2).1):=by
  unfold tensorOn
  rw [hd2,bne,width_known,Bool.not_not]
 have hnc:0 ≤ (countV (intsP l 1).1).1:=countV_pos _
 have base:(f3 fb (tensorBF l) = no3 ∧ knownB (wholeP l 2).1 = true ∧ (countV (intsP l 1).1).2 = 0 ∧ (lastV l 9 2).2.2 = 0 ∧ f3 (floatsP l 4).2 (f3 (intsP l 5).2 (intsP l 7).2) = no3) ↔ (knownB (wholeP l 2).1 = true ∧ (countV (intsP l 1).1).2 = 0 ∧ fAll [fb,(intsP l 1).2,(dimsP (intsP l 1).1).2,(wholeP l 2).2,bad3 ((wholeP l 2).1 == 0),odd3 ((wholeP l 2).1 != 0 && !knownB (wholeP l 2).1),(eachP l 3 l.length).2,(if 0 < (eachP l 3 l.length).1.length then no3 else (wholeP l 14).2),odd3 (decide (0 < (eachP l 3 l.length).1.length) || (wholeP l 14).1 != 0),(nameP l 8).2,(eachP l 9 l.length).2,(floatsP l 4).2,(intsP l 5).2,(intsP l 7).2] = no3):=by
  unfold tensorBF storedF
  simp only [no_iff,no_cons,no_nil,and_true,← last_no,dims_no,width_known,len_ds]
  simp only [no_bad,no_odd,bne_eq_false_iff_eq]
  constructor
  ·rintro ⟨⟨h0,⟨⟨⟨⟨⟨⟨⟨⟨⟨h1,h2⟩,h3⟩,h4⟩,h5⟩,h6⟩,h7⟩,h8⟩,h9⟩,h10⟩,⟨⟨h11,h12⟩,h13⟩,h14⟩,k1,k2,k3,k4,k5,k6⟩
   have e3:=(last_none2 h4).1 h5
   refine ⟨k1,k2,h0,h9,h10,h1,h2,?_,h4,?_,?_,h8,h11,h12,h13,h14⟩
   ·rw [k1]; simp
   ·rw [e3]; simpa using h6
   ·rw [e3]; simp [h7]
  ·rintro ⟨k1,k2,h0,h9,h10,h1,h2,h3,h4,h6,h7,h8,h11,h12,h13,h14⟩
   have e3:(allV l 3).length = 0:=by
    rw [Bool.or_eq_false_iff] at h7
    have:=h7.1
    simp at this
    rw [this]; rfl
   rw [e3] at h6 h7
   have h7':(wholeP l 14).1 = 0:=by simpa using h7
   refine ⟨⟨h0,⟨⟨⟨⟨⟨⟨⟨⟨⟨h1,h2⟩,by rw [k1]; rfl⟩,h4⟩,(last_none2 h4).2 e3⟩,by simpa using h6⟩,h7'⟩,h8⟩,h9⟩,h10⟩,⟨⟨h11,h12⟩,h13⟩,h14⟩,k1,k2,h11,h12,h13,h14⟩
 by_cases hc:((dimsP (intsP l 1).1).1.2 && knownB (wholeP l 2).1) = true
 ·have hc2:=hc
  rw [hd2,Bool.and_eq_true,beq_iff_eq] at hc2
  obtain ⟨c1,c2⟩:=hc2
  rw [if_pos hc]
  unfold tensorCF
  rw [if_pos (by rw [hon]; exact hc),hd]
  simp only
  have E:=fun h9 => elem_eq hl (t:=(wholeP l 2).1) (n:=(countV (intsP l 1).1).1) c2 hnc h9
  constructor
  ·rw [← f3_assoc,no_iff,no_iff (fAll _),no_bad]
   constructor
   ·rintro ⟨h1,h2⟩
    have h9:(lastV l 9 2).2.2 = 0:=by
     unfold tensorBF storedF at h1
     simp only [no_iff,no_bad,bne_eq_false_iff_eq] at h1
     exact h1.2.2.1.1.1
    have hf:f3 (floatsP l 4).2 (f3 (intsP l 5).2 (intsP l 7).2) = no3:=by
     unfold tensorBF storedF at h1
     simp only [no_iff] at h1 ⊢
     exact ⟨h1.2.2.1.1.2,h1.2.2.1.2,h1.2.2.2⟩
    exact ⟨(base.1 ⟨h1,c2,c1,h9,hf⟩).2.2,(E h9).1.1 ⟨hf,by unfold stL at h2; simpa using h2⟩⟩
   ·rintro ⟨h1,h2⟩
    obtain ⟨b1,_,_,b4,b5⟩:=base.2 ⟨c2,c1,h1⟩
    refine ⟨b1,?_⟩
    have:=((E b4).1.2 h2).2
    unfold stL
    rw [this]; rfl
  ·intro h
   rw [no_iff] at h
   obtain ⟨_,_,_,b4,_⟩:=base.2 ⟨c2,c1,h.1⟩
   have:=(E b4).2 h.2
   unfold tensorC stL
   rw [this]
 ·rw [if_neg hc]
  simp only
  have no1:¬ f3 fb (tensorCF l) = no3:=fun h => hc (by
   unfold tensorCF tensorBF at h
   simp only [no_iff,no_odd,dims_no,width_known] at h
   have a1:=h.2.1.1.2
   have a2:=h.2.1.1.1.1.1.1.1.1.1.2
   rw [hd2,a1]
   simpa using a2)
  have no2:¬ fAll [fb,(intsP l 1).2,(dimsP (intsP l 1).1).2,(wholeP l 2).2,bad3 ((wholeP l 2).1 == 0),odd3 ((wholeP l 2).1 != 0 && !knownB (wholeP l 2).1),(eachP l 3 l.length).2,(if 0 < (eachP l 3 l.length).1.length then no3 else (wholeP l 14).2),odd3 (decide (0 < (eachP l 3 l.length).1.length) || (wholeP l 14).1 != 0),(nameP l 8).2,(eachP l 9 l.length).2,(floatsP l 4).2,(intsP l 5).2,(intsP l 7).2] = no3:=fun h => hc (by
   simp only [no_cons,no_odd,no_bad,dims_no] at h
   obtain ⟨_,_,a1,_,a2,a3,_⟩:=h
   rw [hd2,a1]
   have a4:((wholeP l 2).1 != 0) = true:=by rw [bne,a2]; rfl
   rw [a4] at a3
   simpa using a3)
  exact ⟨⟨fun h => absurd h no1,fun h => absurd h no2⟩,fun h => absurd h no2⟩
end Go.Proofs.YtaikppgoahdjbabGreat
