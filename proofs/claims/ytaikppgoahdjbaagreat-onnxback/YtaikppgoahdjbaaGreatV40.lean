import Derived.Test.YtaikppgoahdjbaaGreatV27
import Derived.Test.YtaikppgoahdjbaaGreatV29
import Derived.Test.YtaikppgoahdjbaaGreatV30
import Derived.Test.YtaikppgoahdjbaaGreatV31
import Derived.Test.YtaikppgoahdjbaaGreatV32
import Derived.Test.YtaikppgoahdjbaaGreatV33
import Derived.Test.YtaikppgoahdjbaaGreatV34
import Derived.Test.YtaikppgoahdjbaaGreatV35
set_option maxRecDepth 100000
set_option maxHeartbeats 8000000
namespace Go.Proofs.YtaikppgoahdjbaaGreat
open Go.RowKit
set_option linter.unusedVariables false
theorem clisted_any (qf:Option Addr) (nf cf:Nat) (qs:Option Addr) (ns cs:Nat) (qn:Option Addr) (nn cn:Nat) (qr:Option Addr) (nr cr:Nat) (is:Bool) (w:World) (h1:nf ≤ 100000000) (h2:ns ≤ 100000000) (h3:nn ≤ 100000000) :
  Calls Tryz.prog 235 #[.agg #[.slice qf nf cf,.slice qs ns cs,.slice qn nn cn,.slice qr nr cr,.bool is]] w fun e w' => e = .returned (.int .i64 ((nf:Int) + ns + nn)) ∧ Below w.heap.size w w':=by
 have HB:=hide (fun o => al1p w o)
 go_enter Tryz.func235,Tryz.ntmps235
 go_wp2_with fail
 go_ret
 exact ⟨rfl,uh HB _⟩
theorem ccutF_any (p:Option Addr) (c:Nat) (b:List Int) (N:Nat) (w:World) (h:Ints .u8 w p c b) (hN:b.length = N * 4) (hs:N ≤ 4194304) :
  Calls Tryz.prog 236 #[.int .i64 1,.slice p b.length c] w fun e w' => ∃ q1 d1,e = .returned (.agg #[.slice q1 N d1,.slice none 0 0,.slice none 0 0,.slice none 0 0,.bool false]) ∧ Hid (w'.ownsRow w.heap.size 84 1 (.slice q1 N d1) N (((List.range N).map (fun i => (fun x => x % 4294967296) (atP 4 b i))).map (Value.int .u32)) ∧ Below w.heap.size w w'):=by
 have C1:=hide (fun v => cwidth_any 1 v)
 rw [show widthV 1 = 4 from rfl] at C1
 have C2:=hide (fun v (hv:Below w.heap.size w v) => cpartedF_any p c b N v (h.below hv) hN hs)
 have nl:=h.len
 have hll:((List.range N).map (fun i => (fun x => x % 4294967296) (atP 4 b i))).length = N:=by rw [List.length_map,List.length_range]
 have HLL:=hide hll
 generalize (List.range N).map (fun i => (fun x => x % 4294967296) (atP 4 b i)) = XS at C2 HLL ⊢
 clear h hN hll
 have Y0:=hide (Box.new w #[.slice none 0 0,.slice none 0 0,.slice none 0 0,.slice none 0 0,.bool false] 228)
 go_enter Tryz.func236,Tryz.ntmps236
 go_wp2_with fail
 refine (uh C1 _).mono ?_
 rintro e v ⟨rfl,hv⟩
 replace hv:=hv.symm
 subst hv
 go_wp2_with fail
 refine (uh C2 _ (al1p _ _)).mono ?_
 rintro e w1 ⟨v1,rfl,hO⟩
 obtain ⟨q1,d1,rfl,_,_⟩:=hO.form
 have O1:=hide hO.1
 have B1:=hide (bl_tr (al1p w _) hO.2)
 have Y1:=hide ((uh Y0).below hO.2)
 have y1:=(uh Y1).cell
 have z1:=(uh Y1).frozen
 rw [uh HLL] at O1
 rw [uh HLL]
 clear hO
 go_wp2_with fail
 have Y2:=hide ((uh Y1).set5 (.slice q1 N d1) (.slice none 0 0) (.slice none 0 0) (.slice none 0 0) (.bool false))
 have O2:=hide (ownsRow_base (ownsRow_set (ownsRow_set (ownsRow_set (ownsRow_set (ownsRow_set (uh O1) (g:=w.heap.size) (by simp) 0 (.slice q1 N d1)) (g:=w.heap.size) (by simp) 1 (.slice none 0 0)) (g:=w.heap.size) (by simp) 2 (.slice none 0 0)) (g:=w.heap.size) (by simp) 3 (.slice none 0 0)) (g:=w.heap.size) (by simp) 4 (.bool false)) (show w.heap.size ≤ _ by simp))
 have B2:=hide (bset5 (uh B1) (Nat.le_refl w.heap.size) (.slice q1 N d1) (.slice none 0 0) (.slice none 0 0) (.slice none 0 0) (.bool false))
 refine bodyPost_ret ?_ rfl ⟨q1,d1,rfl,hide ⟨uh O2,uh B2⟩⟩
 simp [results,Tryz.results236,go_sem,(uh Y2).cell]
theorem ccutI_any (p:Option Addr) (c:Nat) (b:List Int) (N:Nat) (w:World) (h:Ints .u8 w p c b) (hN:b.length = N * 8) (hs:N ≤ 4194304) :
  Calls Tryz.prog 236 #[.int .i64 7,.slice p b.length c] w fun e w' => ∃ q1 d1,e = .returned (.agg #[.slice none 0 0,.slice none 0 0,.slice q1 N d1,.slice none 0 0,.bool false]) ∧ Hid (w'.ownsRow w.heap.size 2 1 (.slice q1 N d1) N (((List.range N).map (fun i => (i64w) (atP 8 b i))).map (Value.int .i64)) ∧ Below w.heap.size w w'):=by
 have C1:=hide (fun v => cwidth_any 7 v)
 rw [show widthV 7 = 8 from rfl] at C1
 have C2:=hide (fun v (hv:Below w.heap.size w v) => cpartedI_any p c b N v (h.below hv) hN hs)
 have nl:=h.len
 have hll:((List.range N).map (fun i => (i64w) (atP 8 b i))).length = N:=by rw [List.length_map,List.length_range]
 have HLL:=hide hll
 generalize (List.range N).map (fun i => (i64w) (atP 8 b i)) = XS at C2 HLL ⊢
 clear h hN hll
 have Y0:=hide (Box.new w #[.slice none 0 0,.slice none 0 0,.slice none 0 0,.slice none 0 0,.bool false] 228)
 go_enter Tryz.func236,Tryz.ntmps236
 go_wp2_with fail
 refine (uh C1 _).mono ?_
 rintro e v ⟨rfl,hv⟩
 replace hv:=hv.symm
 subst hv
 go_wp2_with fail
 refine (uh C2 _ (al1p _ _)).mono ?_
 rintro e w1 ⟨v1,rfl,hO⟩
 obtain ⟨q1,d1,rfl,_,_⟩:=hO.form
 have O1:=hide hO.1
 have B1:=hide (bl_tr (al1p w _) hO.2)
 have Y1:=hide ((uh Y0).below hO.2)
 have y1:=(uh Y1).cell
 have z1:=(uh Y1).frozen
 rw [uh HLL] at O1
 rw [uh HLL]
 clear hO
 go_wp2_with fail
 have Y2:=hide ((uh Y1).set5 (.slice none 0 0) (.slice none 0 0) (.slice q1 N d1) (.slice none 0 0) (.bool false))
 have O2:=hide (ownsRow_base (ownsRow_set (ownsRow_set (ownsRow_set (ownsRow_set (ownsRow_set (uh O1) (g:=w.heap.size) (by simp) 0 (.slice none 0 0)) (g:=w.heap.size) (by simp) 1 (.slice none 0 0)) (g:=w.heap.size) (by simp) 2 (.slice q1 N d1)) (g:=w.heap.size) (by simp) 3 (.slice none 0 0)) (g:=w.heap.size) (by simp) 4 (.bool false)) (show w.heap.size ≤ _ by simp))
 have B2:=hide (bset5 (uh B1) (Nat.le_refl w.heap.size) (.slice none 0 0) (.slice none 0 0) (.slice q1 N d1) (.slice none 0 0) (.bool false))
 refine bodyPost_ret ?_ rfl ⟨q1,d1,rfl,hide ⟨uh O2,uh B2⟩⟩
 simp [results,Tryz.results236,go_sem,(uh Y2).cell]
theorem ccutB_any (p:Option Addr) (c:Nat) (b:List Int) (N:Nat) (w:World) (h:Ints .u8 w p c b) (hN:b.length = N * 1) (hs:N ≤ 4194304) :
  Calls Tryz.prog 236 #[.int .i64 9,.slice p b.length c] w fun e w' => ∃ q1 d1,e = .returned (.agg #[.slice none 0 0,.slice q1 N d1,.slice none 0 0,.slice none 0 0,.bool false]) ∧ Hid (w'.ownsRow w.heap.size 2 1 (.slice q1 N d1) N (((List.range N).map (fun i => (i64w) (atP 1 b i))).map (Value.int .i64)) ∧ Below w.heap.size w w'):=by
 have C1:=hide (fun v => cwidth_any 9 v)
 rw [show widthV 9 = 1 from rfl] at C1
 have C2:=hide (fun v (hv:Below w.heap.size w v) => cpartedB_any p c b N v (h.below hv) hN hs)
 have nl:=h.len
 have hll:((List.range N).map (fun i => (i64w) (atP 1 b i))).length = N:=by rw [List.length_map,List.length_range]
 have HLL:=hide hll
 generalize (List.range N).map (fun i => (i64w) (atP 1 b i)) = XS at C2 HLL ⊢
 clear h hN hll
 have Y0:=hide (Box.new w #[.slice none 0 0,.slice none 0 0,.slice none 0 0,.slice none 0 0,.bool false] 228)
 go_enter Tryz.func236,Tryz.ntmps236
 go_wp2_with fail
 refine (uh C1 _).mono ?_
 rintro e v ⟨rfl,hv⟩
 replace hv:=hv.symm
 subst hv
 go_wp2_with fail
 refine (uh C2 _ (al1p _ _)).mono ?_
 rintro e w1 ⟨v1,rfl,hO⟩
 obtain ⟨q1,d1,rfl,_,_⟩:=hO.form
 have O1:=hide hO.1
 have B1:=hide (bl_tr (al1p w _) hO.2)
 have Y1:=hide ((uh Y0).below hO.2)
 have y1:=(uh Y1).cell
 have z1:=(uh Y1).frozen
 rw [uh HLL] at O1
 rw [uh HLL]
 clear hO
 go_wp2_with fail
 have Y2:=hide ((uh Y1).set5 (.slice none 0 0) (.slice q1 N d1) (.slice none 0 0) (.slice none 0 0) (.bool false))
 have O2:=hide (ownsRow_base (ownsRow_set (ownsRow_set (ownsRow_set (ownsRow_set (ownsRow_set (uh O1) (g:=w.heap.size) (by simp) 0 (.slice none 0 0)) (g:=w.heap.size) (by simp) 1 (.slice q1 N d1)) (g:=w.heap.size) (by simp) 2 (.slice none 0 0)) (g:=w.heap.size) (by simp) 3 (.slice none 0 0)) (g:=w.heap.size) (by simp) 4 (.bool false)) (show w.heap.size ≤ _ by simp))
 have B2:=hide (bset5 (uh B1) (Nat.le_refl w.heap.size) (.slice none 0 0) (.slice q1 N d1) (.slice none 0 0) (.slice none 0 0) (.bool false))
 refine bodyPost_ret ?_ rfl ⟨q1,d1,rfl,hide ⟨uh O2,uh B2⟩⟩
 simp [results,Tryz.results236,go_sem,(uh Y2).cell]
structure StA where
 fl:List Int
 qf:Option Addr
 cf:Nat
 sm:List Int
 qs:Option Addr
 cs:Nat
 nu:List Int
 qn:Option Addr
 cn:Nat
 rw:List Int
 qr:Option Addr
 cr:Nat
 isR:Bool
def stCells (a:StA):Array Value:=#[.slice a.qf a.fl.length a.cf,.slice a.qs a.sm.length a.cs,.slice a.qn a.nu.length a.cn,.slice a.qr a.rw.length a.cr,.bool a.isR]
def StIn (g B:Nat) (w:World) (a:StA):Prop:=w.ownsRow B 84 1 (.slice a.qf a.fl.length a.cf) a.fl.length (a.fl.map (Value.int .u32)) ∧ w.ownsRow B 2 1 (.slice a.qs a.sm.length a.cs) a.sm.length (a.sm.map (Value.int .i64)) ∧ w.ownsRow B 2 1 (.slice a.qn a.nu.length a.cn) a.nu.length (a.nu.map (Value.int .i64)) ∧ Ints .u8 w a.qr a.cr a.rw ∧ Off g a.qr a.rw.length
def storedF (l:List Fld):F3:=f3 (f3 (f3 (bad3 ((lastV l 9 2).2.2 != 0)) (floatsP l 4).2) (intsP l 5).2) (intsP l 7).2
theorem own_form7 {base k n:Nat} {e:TypeId} {w:World} {v:Value} {xs:List Value} (h:w.ownsRow base e k v n xs):∃ q d,v = .slice q n d:=own_slice h
theorem ownsRow_off {base k n r:Nat} {e t:TypeId} {w w':World} {v:Value} {xs:List Value} {cs:Array Value} (h:w.ownsRow base e k v n xs) (hb:Box w r cs t) (ht:t ≠ e) (s:Stay r w w'):w'.ownsRow base e k v n xs:=by
 obtain ⟨l1,h1⟩:=h
 refine ⟨l1,?_⟩
 rcases h1 with ⟨rfl,h0⟩ | ⟨b,cap,cur,rfl,hb1,hh,hc,hm,hs2,ht2⟩
 ·exact .inl ⟨rfl,h0⟩
 ·refine .inr ⟨b,cap,cur,rfl,hb1,(s.block (fun e2 => ?_) (lt_of_block hh)).trans hh,hc,hm,hs2,ht2⟩
  subst e2
  unfold Box at hb
  rw [hb] at hh
  simp only [Option.some.injEq,Obj.cells.injEq] at hh
  exact ht hh.2.1
theorem creadStored_any (g:Nat) (q:Option Addr) (d:Nat) (L:List FA) (w:World) (hw:WstE g w) (h:MsIn g w q d L) :
  Calls Tryz.prog 184 #[msV q L.length d g] w fun e w' => ∃ a:StA,e = .returned (.agg (stCells a)) ∧ Hid ((a.fl = (floatsP (L.map FA.f) 4).1 ∧ a.sm = (intsP (L.map FA.f) 5).1 ∧ a.nu = (intsP (L.map FA.f) 7).1 ∧ a.rw = (lastV (L.map FA.f) 9 2).1.2.2.2 ∧ a.isR = (lastV (L.map FA.f) 9 2).2.1) ∧ StIn g w.heap.size w' a ∧ RE g (storedF (L.map FA.f)) w w'):=by
 have C1:=hide (fun v (sv:Stay g w v) (hv:WstE g v) => clastm_any g q d L 9 2 v hv (h.stay sv))
 have C2:=hide (fun v (sv:Stay g w v) (hv:WstE g v) => cflts_any g q d L 4 v hv (h.stay sv))
 have C3:=hide (fun v (sv:Stay g w v) (hv:WstE g v) => cnums_any g q d L 5 v hv (h.stay sv))
 have C4:=hide (fun v (sv:Stay g w v) (hv:WstE g v) => cnums_any g q d L 7 v hv (h.stay sv))
 have HW:=hide hw
 have gl:=hw.lt
 unfold storedF
 clear hw h
 generalize lastV (L.map FA.f) 9 2 = R at C1 ⊢
 obtain ⟨R1,R2,R3⟩:=R
 simp only at C1 ⊢
 generalize (R3 != 0) = DD at C1 ⊢
 generalize floatsP (L.map FA.f) 4 = FL at C2 ⊢
 obtain ⟨F1,F2⟩:=FL
 generalize intsP (L.map FA.f) 5 = NS at C3 ⊢
 obtain ⟨N1,N2⟩:=NS
 generalize intsP (L.map FA.f) 7 = KS at C4 ⊢
 obtain ⟨K1,K2⟩:=KS
 simp only at C2 C3 C4 ⊢
 unfold msV at C1 C2 C3 C4 ⊢
 have A0:=hide (al2p w (Obj.cells #[.slice q L.length d,.pointer (some ⟨g,0,none⟩)] 58) (Obj.cells #[.slice none 0 0,.slice none 0 0,.slice none 0 0,.slice none 0 0,.bool false] 228))
 have X0:=hide (Box.alloc (Box.new w #[.slice q L.length d,.pointer (some ⟨g,0,none⟩)] 58) (Obj.cells #[.slice none 0 0,.slice none 0 0,.slice none 0 0,.slice none 0 0,.bool false] 228))
 have Y0:Hid (Box ((w.alloc (Obj.cells #[.slice q L.length d,.pointer (some ⟨g,0,none⟩)] 58)).alloc (Obj.cells #[.slice none 0 0,.slice none 0 0,.slice none 0 0,.slice none 0 0,.bool false] 228)) (w.heap.size + 1) #[.slice none 0 0,.slice none 0 0,.slice none 0 0,.slice none 0 0,.bool false] 228):=hide (by have h:=Box.new (w.alloc (Obj.cells #[.slice q L.length d,.pointer (some ⟨g,0,none⟩)] 58)) #[.slice none 0 0,.slice none 0 0,.slice none 0 0,.slice none 0 0,.bool false] 228; rw [alloc_size6] at h; exact h)
 go_enter Tryz.func184,Tryz.ntmps184
 go_wp2_with fail
 refine (uh C1 _ (Stay.below (uh A0) (by omega)) ((uh HW).below (uh A0))).mono ?_
 rintro e w1 ⟨a,rfl,hq⟩
 obtain ⟨h1,h2,h3,hr⟩:=uh hq
 obtain ⟨an,awr,ax,ad,aq,ac⟩:=a
 have HF1:=hide h1
 have l0:w.heap.size + 1 < w1.heap.size:=(hr.1.box (uh Y0) (by omega)).lt
 have D1:Hid (Below w1.heap.size w1 ((w1.alloc (Obj.cells #[.int .i64 an,.int .i64 awr,.int .u64 ax,.slice aq ad.length ac] 148)).drew)):=hide (bl_tr (al1p w1 _) (bdrewp _))
 have R1':=hide (((((RE.below (uh A0) (uh HW)).trans hr).trans (RE.below (uh D1) (hr.wst ((uh HW).below (uh A0)))))).eq (f':=bad3 DD) (by rw [no_f3,f3_no]))
 have X1:=hide (hr.1.box (uh X0) (by omega))
 have Y1:=hide (hr.1.box (uh Y0) (by omega))
 have x1:=fun o => ((uh X1).alloc o).cell
 have X1d:=hide ((uh X1).below (uh D1))
 have Y1d:=hide ((uh Y1).below (uh D1))
 have G1:Hid (Box (w1.alloc (Obj.cells #[.int .i64 an,.int .i64 awr,.int .u64 ax,.slice aq ad.length ac] 148)) w1.heap.size #[.int .i64 an,.int .i64 awr,.int .u64 ax,.slice aq ad.length ac] 148):=hide (Box.new w1 _ _)
 have G1d:=hide ((uh G1).below (bdrewp _))
 have HI1:=hide (h2.below (uh D1))
 have HO1:Hid (Off g aq ad.length):=hide (h3 g (by simp; omega))
 have PR:Hid (Off (w.heap.size + 1) aq ad.length):=hide (h3 (w.heap.size + 1) (by simp))
 have xa:=((uh X1).alloc (Obj.cells #[.int .i64 an,.int .i64 awr,.int .u64 ax,.slice aq ad.length ac] 148)).cell
 have xd:=(uh X1d).cell
 have ga:=(uh G1).cell
 have gd:=(uh G1d).cell
 clear hq h1 h2 h3 hr x1 C1
 unfold faV
 simp only
 go_wp2_with fail
 go_region_held3 (fun v => (∀ j,v.cell? ⟨w.heap.size,j,none⟩ = (#[.slice q L.length d,.pointer (some ⟨g,0,none⟩)]:Array Value)[j]?) ∧ (∀ j,v.cell? ⟨w1.heap.size,j,none⟩ = (#[.int .i64 an,.int .i64 awr,.int .u64 ax,.slice aq ad.length ac]:Array Value)[j]?)) (refine ⟨?_,?_⟩ <;> with_reducible assumption)
  (first
   | (go_at_call 181; (refine (uh C4 _ (uh R3').1 ((uh R3').wst (uh HW))).mono ?_; rintro e w4 ⟨v4,rfl,hq⟩; obtain ⟨g4,hr⟩:=uh hq; obtain ⟨q4,d4,e4⟩:=own_form7 g4; subst e4; have R4':=hide ((uh R3').trans hr); have O4:=hide (ownsRow_base g4 (uh R3').1.1.size); have O34:=hide (ownsRow_stay (uh O3) gl hr.1); have O24:=hide (ownsRow_stay (uh O23) gl hr.1); have HI4:=hide ((uh HI3).stay (uh HO1) hr.1); have X4:=hide (hr.1.box (uh X3) (by omega)); have G4:=hide (hr.1.box (uh G3) (by omega)); have Y4:=hide (hr.1.box (uh Y3) (by omega)); have x4:=(uh X4).cell; have g4c:=(uh G4).cell; have y4:=(uh Y4).cell; have z4:=(uh Y4).frozen; have x4s:=(Box.off5 (uh X4) (show w.heap.size ≠ w.heap.size + 1 by omega) (.slice q2 F1.length d2) (.slice q3 N1.length d3) (.slice q4 K1.length d4) (.slice aq ad.length ac) (.bool R2)).cell; have g4s:=(Box.off5 (uh G4) (show w1.heap.size ≠ w.heap.size + 1 by omega) (.slice q2 F1.length d2) (.slice q3 N1.length d3) (.slice q4 K1.length d4) (.slice aq ad.length ac) (.bool R2)).cell; clear hq g4 hr))
   | (go_at_call 181; (refine (uh C3 _ (uh R2').1 ((uh R2').wst (uh HW))).mono ?_; rintro e w3 ⟨v3,rfl,hq⟩; obtain ⟨g3,hr⟩:=uh hq; obtain ⟨q3,d3,e3⟩:=own_form7 g3; subst e3; have R3':=hide ((uh R2').trans hr); have O3:=hide (ownsRow_base g3 (uh R2').1.1.size); have O23:=hide (ownsRow_stay (uh O2) gl hr.1); have HI3:=hide ((uh HI2).stay (uh HO1) hr.1); have X3:=hide (hr.1.box (uh X2) (by omega)); have G3:=hide (hr.1.box (uh G2) (by omega)); have Y3:=hide (hr.1.box (uh Y2) (by omega)); have x3:=(uh X3).cell; have g3c:=(uh G3).cell; clear hq g3 hr))
   | (go_at_call 229; (refine (uh C2 _ (uh R1').1 ((uh R1').wst (uh HW))).mono ?_; rintro e w2 ⟨v2,rfl,hq⟩; obtain ⟨g2,hr⟩:=uh hq; obtain ⟨q2,d2,e2⟩:=own_form7 g2; subst e2; have R2':=hide ((uh R1').trans hr); have O2:=hide (ownsRow_base g2 (uh R1').1.1.size); have HI2:=hide ((uh HI1).stay (uh HO1) hr.1); have X2:=hide (hr.1.box (uh X1d) (by omega)); have G2:=hide (hr.1.box (uh G1d) (by omega)); have Y2:=hide (hr.1.box (uh Y1d) (by omega)); have x2:=(uh X2).cell; have g2c:=(uh G2).cell; clear hq g2 hr)))
 go_wp2_with fail
 have SS:Hid (Stay (w.heap.size + 1) w4 _):=hide (((((Stay.set (w.heap.size + 1) w4 0 (.slice q2 F1.length d2)).trans (Stay.set _ _ 1 (.slice q3 N1.length d3))).trans (Stay.set _ _ 2 (.slice q4 K1.length d4))).trans (Stay.set _ _ 3 (.slice aq ad.length ac))).trans (Stay.set _ _ 4 (.bool R2)))
 have Y5:=hide ((uh Y4).set5 (.slice q2 F1.length d2) (.slice q3 N1.length d3) (.slice q4 K1.length d4) (.slice aq ad.length ac) (.bool R2))
 have R5:=hide ((((((uh R4').setNew (show w.heap.size ≤ w.heap.size + 1 by omega) gl 0 (.slice q2 F1.length d2)).setNew (show w.heap.size ≤ w.heap.size + 1 by omega) gl 1 (.slice q3 N1.length d3)).setNew (show w.heap.size ≤ w.heap.size + 1 by omega) gl 2 (.slice q4 K1.length d4)).setNew (show w.heap.size ≤ w.heap.size + 1 by omega) gl 3 (.slice aq ad.length ac)).setNew (show w.heap.size ≤ w.heap.size + 1 by omega) gl 4 (.bool R2))
 have P2:=hide (ownsRow_off (uh O24) (uh Y4) (by decide) (uh SS))
 have P3:=hide (ownsRow_off (uh O34) (uh Y4) (by decide) (uh SS))
 have P4:=hide (ownsRow_off (uh O4) (uh Y4) (by decide) (uh SS))
 have PI:=hide (((uh HI4).2.2.2).stay7 (uh PR) (uh SS))
 refine bodyPost_ret ?_ rfl ⟨⟨F1,q2,d2,N1,q3,d3,K1,q4,d4,ad,aq,ac,R2⟩,rfl,hide ⟨⟨rfl,rfl,rfl,by rw [← uh HF1]; rfl,rfl⟩,⟨uh P2,uh P3,uh P4,uh PI,uh HO1⟩,uh R5⟩⟩
 simp [results,Tryz.results184,go_sem,(uh Y5).cell,stCells]
def Rn (g:Nat) (f:F3) (w0 v:World):Prop:=RE g f w0 v ∧ WstE g v
def Rx (g:Nat) (w0 v:World):Prop:=∃ f,Rn g f w0 v
theorem RE.refl {g:Nat} {w:World} (hw:WstE g w):RE g no3 w w:=RE.below (Below.refl _ _) hw
theorem Rn.refl {g:Nat} {w:World} (hw:WstE g w):Rn g no3 w w:=⟨RE.refl hw,hw⟩
theorem Rn.re {g:Nat} {f f':F3} {w0 v v':World} (h:Rn g f w0 v) (r:RE g f' v v'):Rn g (f3 f f') w0 v':=⟨h.1.trans r,r.wst h.2⟩
theorem Rn.bel {g:Nat} {f:F3} {w0 v v':World} (h:Rn g f w0 v) (b:Below v.heap.size v v'):Rn g f w0 v':=⟨(h.1.trans (RE.below b h.2)).eq (by rw [f3_no]),h.2.below b⟩
theorem Rn.al {g:Nat} {f:F3} {w0 v:World} (h:Rn g f w0 v) (o:Obj):Rn g f w0 (v.alloc o):=h.bel (al1p v o)
theorem Rn.dr {g:Nat} {f:F3} {w0 v:World} (h:Rn g f w0 v):Rn g f w0 v.drew:=h.bel (bdrewp v)
theorem Rn.set {g b:Nat} {f:F3} {w0 v:World} (h:Rn g f w0 v) (hb:w0.heap.size ≤ b) (hg:g < w0.heap.size) (j:Nat) (u:Value):Rn g f w0 (v.setCell ⟨b,j,none⟩ u):=by
 refine ⟨h.1.setNew hb hg j u,?_⟩
 obtain ⟨k,h0,h1,h2⟩:=h.2
 exact ⟨k,h0,h1,Box.other h2 (by omega) j u⟩
theorem Rn.setMany {g b:Nat} {f:F3} {w0:World} (hb:w0.heap.size ≤ b) (hg:g < w0.heap.size):∀ (us:List Value) (off:Nat) (v:World),Rn g f w0 v → Rn g f w0 (setMany v b off us)
 | [],off,v,h => h
 | u :: us,off,v,h => Rn.setMany hb hg us (off + 1) _ (h.set hb hg off u)
theorem Rn.x {g:Nat} {f:F3} {w0 v:World} (h:Rn g f w0 v):Rx g w0 v:=⟨f,h⟩
theorem RE.thenN {g:Nat} {f f':F3} {w w0 v:World} (h:RE g f w w0) (r:Rn g f' w0 v):Rn g (f3 f f') w v:=⟨h.trans r.1,r.2⟩
theorem Rn.box {g k:Nat} {f:F3} {w0 v:World} {cs:Array Value} {t:TypeId} (h:Rn g f w0 v) (b:Box w0 k cs t) (hk:k ≠ g):Box v k cs t:=h.1.1.box b hk
theorem Rn.size {g:Nat} {f:F3} {w0 v:World} (h:Rn g f w0 v):w0.heap.size ≤ v.heap.size:=h.1.1.1.size
theorem Rn.cells1 {g m:Nat} {f:F3} {w0 v:World} {cs:Array Value} {t:TypeId} (h:Rn g f w0 v) (b:Box w0 m cs t) (n:m ≠ g):∀ j,v.cell? ⟨m,j,none⟩ = cs[j]?:=(h.box b n).cell
theorem Rn.cells2 {g m m':Nat} {f:F3} {w0 v:World} {cs cs':Array Value} {t t':TypeId} (h:Rn g f w0 v) (b:Box w0 m cs t) (b':Box w0 m' cs' t') (n:m ≠ g) (n':m' ≠ g):(∀ j,v.cell? ⟨m,j,none⟩ = cs[j]?) ∧ (∀ j,v.cell? ⟨m',j,none⟩ = cs'[j]?):=⟨(h.box b n).cell,(h.box b' n').cell⟩
theorem Rn.cells3 {g m m' m'':Nat} {f:F3} {w0 v:World} {cs cs' cs'':Array Value} {t t' t'':TypeId} (h:Rn g f w0 v) (b:Box w0 m cs t) (b':Box w0 m' cs' t') (b'':Box w0 m'' cs'' t'') (n:m ≠ g) (n':m' ≠ g) (n'':m'' ≠ g):(∀ j,v.cell? ⟨m,j,none⟩ = cs[j]?) ∧ (∀ j,v.cell? ⟨m',j,none⟩ = cs'[j]?) ∧ (∀ j,v.cell? ⟨m'',j,none⟩ = cs''[j]?):=⟨(h.box b n).cell,(h.box b' n').cell,(h.box b'' n'').cell⟩
theorem Rn.set2 {g b:Nat} {f:F3} {w0 v:World} (h:Rn g f w0 v) (hb:w0.heap.size ≤ b) (hg:g < w0.heap.size) (u0 u1:Value):Rn g f w0 ((v.setCell ⟨b,0,none⟩ u0).setCell ⟨b,1,none⟩ u1):=Rn.setMany hb hg [u0,u1] 0 v h
theorem Kept.set2 {TS:List TypeId} {B b:Nat} {w:World} {cur:Array Value} {t:TypeId} (h:Box w b cur t) (ht:¬ t ∈ TS) (hB:B ≤ b) (u0 u1:Value):Kept TS B w ((w.setCell ⟨b,0,none⟩ u0).setCell ⟨b,1,none⟩ u1):=Kept.setMany (off:=0) h ht hB [u0,u1]
theorem Rn.set3 {g b:Nat} {f:F3} {w0 v:World} (h:Rn g f w0 v) (hb:w0.heap.size ≤ b) (hg:g < w0.heap.size) (u0 u1 u2:Value):Rn g f w0 (((v.setCell ⟨b,0,none⟩ u0).setCell ⟨b,1,none⟩ u1).setCell ⟨b,2,none⟩ u2):=Rn.setMany hb hg [u0,u1,u2] 0 v h
theorem Kept.set3 {TS:List TypeId} {B b:Nat} {w:World} {cur:Array Value} {t:TypeId} (h:Box w b cur t) (ht:¬ t ∈ TS) (hB:B ≤ b) (u0 u1 u2:Value):Kept TS B w (((w.setCell ⟨b,0,none⟩ u0).setCell ⟨b,1,none⟩ u1).setCell ⟨b,2,none⟩ u2):=Kept.setMany (off:=0) h ht hB [u0,u1,u2]
theorem Rn.set5 {g b:Nat} {f:F3} {w0 v:World} (h:Rn g f w0 v) (hb:w0.heap.size ≤ b) (hg:g < w0.heap.size) (u0 u1 u2 u3 u4:Value):Rn g f w0 (((((v.setCell ⟨b,0,none⟩ u0).setCell ⟨b,1,none⟩ u1).setCell ⟨b,2,none⟩ u2).setCell ⟨b,3,none⟩ u3).setCell ⟨b,4,none⟩ u4):=Rn.setMany hb hg [u0,u1,u2,u3,u4] 0 v h
theorem Kept.set5 {TS:List TypeId} {B b:Nat} {w:World} {cur:Array Value} {t:TypeId} (h:Box w b cur t) (ht:¬ t ∈ TS) (hB:B ≤ b) (u0 u1 u2 u3 u4:Value):Kept TS B w (((((w.setCell ⟨b,0,none⟩ u0).setCell ⟨b,1,none⟩ u1).setCell ⟨b,2,none⟩ u2).setCell ⟨b,3,none⟩ u3).setCell ⟨b,4,none⟩ u4):=Kept.setMany (off:=0) h ht hB [u0,u1,u2,u3,u4]
theorem Rn.set6 {g b:Nat} {f:F3} {w0 v:World} (h:Rn g f w0 v) (hb:w0.heap.size ≤ b) (hg:g < w0.heap.size) (u0 u1 u2 u3 u4 u5:Value):Rn g f w0 ((((((v.setCell ⟨b,0,none⟩ u0).setCell ⟨b,1,none⟩ u1).setCell ⟨b,2,none⟩ u2).setCell ⟨b,3,none⟩ u3).setCell ⟨b,4,none⟩ u4).setCell ⟨b,5,none⟩ u5):=Rn.setMany hb hg [u0,u1,u2,u3,u4,u5] 0 v h
theorem Kept.set6 {TS:List TypeId} {B b:Nat} {w:World} {cur:Array Value} {t:TypeId} (h:Box w b cur t) (ht:¬ t ∈ TS) (hB:B ≤ b) (u0 u1 u2 u3 u4 u5:Value):Kept TS B w ((((((w.setCell ⟨b,0,none⟩ u0).setCell ⟨b,1,none⟩ u1).setCell ⟨b,2,none⟩ u2).setCell ⟨b,3,none⟩ u3).setCell ⟨b,4,none⟩ u4).setCell ⟨b,5,none⟩ u5):=Kept.setMany (off:=0) h ht hB [u0,u1,u2,u3,u4,u5]
theorem Rn.set12 {g b:Nat} {f:F3} {w0 v:World} (h:Rn g f w0 v) (hb:w0.heap.size ≤ b) (hg:g < w0.heap.size) (u0 u1 u2 u3 u4 u5 u6 u7 u8 u9 u10 u11:Value):Rn g f w0 ((((((((((((v.setCell ⟨b,0,none⟩ u0).setCell ⟨b,1,none⟩ u1).setCell ⟨b,2,none⟩ u2).setCell ⟨b,3,none⟩ u3).setCell ⟨b,4,none⟩ u4).setCell ⟨b,5,none⟩ u5).setCell ⟨b,6,none⟩ u6).setCell ⟨b,7,none⟩ u7).setCell ⟨b,8,none⟩ u8).setCell ⟨b,9,none⟩ u9).setCell ⟨b,10,none⟩ u10).setCell ⟨b,11,none⟩ u11):=Rn.setMany hb hg [u0,u1,u2,u3,u4,u5,u6,u7,u8,u9,u10,u11] 0 v h
theorem Kept.set12 {TS:List TypeId} {B b:Nat} {w:World} {cur:Array Value} {t:TypeId} (h:Box w b cur t) (ht:¬ t ∈ TS) (hB:B ≤ b) (u0 u1 u2 u3 u4 u5 u6 u7 u8 u9 u10 u11:Value):Kept TS B w ((((((((((((w.setCell ⟨b,0,none⟩ u0).setCell ⟨b,1,none⟩ u1).setCell ⟨b,2,none⟩ u2).setCell ⟨b,3,none⟩ u3).setCell ⟨b,4,none⟩ u4).setCell ⟨b,5,none⟩ u5).setCell ⟨b,6,none⟩ u6).setCell ⟨b,7,none⟩ u7).setCell ⟨b,8,none⟩ u8).setCell ⟨b,9,none⟩ u9).setCell ⟨b,10,none⟩ u10).setCell ⟨b,11,none⟩ u11):=Kept.setMany (off:=0) h ht hB [u0,u1,u2,u3,u4,u5,u6,u7,u8,u9,u10,u11]
theorem Rn.store2 {g b:Nat} {f:F3} {w0 v v':World} {a0 a1:Value} {t:TypeId} (h:Rn g f w0 v) (hk:Below v.heap.size v v') (hb:Box v' b #[a0,a1] t) (h0:w0.heap.size ≤ b) (hg:g < w0.heap.size) (u0 u1:Value):Rn g f w0 ((v'.setCell ⟨b,0,none⟩ u0).setCell ⟨b,1,none⟩ u1) ∧ Box ((v'.setCell ⟨b,0,none⟩ u0).setCell ⟨b,1,none⟩ u1) b #[u0,u1] t ∧ ∀ TS:List TypeId,¬ t ∈ TS → Kept TS 0 v ((v'.setCell ⟨b,0,none⟩ u0).setCell ⟨b,1,none⟩ u1):=⟨(h.bel hk).set2 h0 hg u0 u1,hb.set2 u0 u1,fun TS ht => (Kept.below hk).trans (Kept.set2 hb ht (by omega) u0 u1)⟩
theorem Rn.store3 {g b:Nat} {f:F3} {w0 v v':World} {a0 a1 a2:Value} {t:TypeId} (h:Rn g f w0 v) (hk:Below v.heap.size v v') (hb:Box v' b #[a0,a1,a2] t) (h0:w0.heap.size ≤ b) (hg:g < w0.heap.size) (u0 u1 u2:Value):Rn g f w0 (((v'.setCell ⟨b,0,none⟩ u0).setCell ⟨b,1,none⟩ u1).setCell ⟨b,2,none⟩ u2) ∧ Box (((v'.setCell ⟨b,0,none⟩ u0).setCell ⟨b,1,none⟩ u1).setCell ⟨b,2,none⟩ u2) b #[u0,u1,u2] t ∧ ∀ TS:List TypeId,¬ t ∈ TS → Kept TS 0 v (((v'.setCell ⟨b,0,none⟩ u0).setCell ⟨b,1,none⟩ u1).setCell ⟨b,2,none⟩ u2):=⟨(h.bel hk).set3 h0 hg u0 u1 u2,hb.set3 u0 u1 u2,fun TS ht => (Kept.below hk).trans (Kept.set3 hb ht (by omega) u0 u1 u2)⟩
theorem Rn.store5 {g b:Nat} {f:F3} {w0 v v':World} {a0 a1 a2 a3 a4:Value} {t:TypeId} (h:Rn g f w0 v) (hk:Below v.heap.size v v') (hb:Box v' b #[a0,a1,a2,a3,a4] t) (h0:w0.heap.size ≤ b) (hg:g < w0.heap.size) (u0 u1 u2 u3 u4:Value):Rn g f w0 (((((v'.setCell ⟨b,0,none⟩ u0).setCell ⟨b,1,none⟩ u1).setCell ⟨b,2,none⟩ u2).setCell ⟨b,3,none⟩ u3).setCell ⟨b,4,none⟩ u4) ∧ Box (((((v'.setCell ⟨b,0,none⟩ u0).setCell ⟨b,1,none⟩ u1).setCell ⟨b,2,none⟩ u2).setCell ⟨b,3,none⟩ u3).setCell ⟨b,4,none⟩ u4) b #[u0,u1,u2,u3,u4] t ∧ ∀ TS:List TypeId,¬ t ∈ TS → Kept TS 0 v (((((v'.setCell ⟨b,0,none⟩ u0).setCell ⟨b,1,none⟩ u1).setCell ⟨b,2,none⟩ u2).setCell ⟨b,3,none⟩ u3).setCell ⟨b,4,none⟩ u4):=⟨(h.bel hk).set5 h0 hg u0 u1 u2 u3 u4,hb.set5 u0 u1 u2 u3 u4,fun TS ht => (Kept.below hk).trans (Kept.set5 hb ht (by omega) u0 u1 u2 u3 u4)⟩
theorem Rn.store6 {g b:Nat} {f:F3} {w0 v v':World} {a0 a1 a2 a3 a4 a5:Value} {t:TypeId} (h:Rn g f w0 v) (hk:Below v.heap.size v v') (hb:Box v' b #[a0,a1,a2,a3,a4,a5] t) (h0:w0.heap.size ≤ b) (hg:g < w0.heap.size) (u0 u1 u2 u3 u4 u5:Value):Rn g f w0 ((((((v'.setCell ⟨b,0,none⟩ u0).setCell ⟨b,1,none⟩ u1).setCell ⟨b,2,none⟩ u2).setCell ⟨b,3,none⟩ u3).setCell ⟨b,4,none⟩ u4).setCell ⟨b,5,none⟩ u5) ∧ Box ((((((v'.setCell ⟨b,0,none⟩ u0).setCell ⟨b,1,none⟩ u1).setCell ⟨b,2,none⟩ u2).setCell ⟨b,3,none⟩ u3).setCell ⟨b,4,none⟩ u4).setCell ⟨b,5,none⟩ u5) b #[u0,u1,u2,u3,u4,u5] t ∧ ∀ TS:List TypeId,¬ t ∈ TS → Kept TS 0 v ((((((v'.setCell ⟨b,0,none⟩ u0).setCell ⟨b,1,none⟩ u1).setCell ⟨b,2,none⟩ u2).setCell ⟨b,3,none⟩ u3).setCell ⟨b,4,none⟩ u4).setCell ⟨b,5,none⟩ u5):=⟨(h.bel hk).set6 h0 hg u0 u1 u2 u3 u4 u5,hb.set6 u0 u1 u2 u3 u4 u5,fun TS ht => (Kept.below hk).trans (Kept.set6 hb ht (by omega) u0 u1 u2 u3 u4 u5)⟩
theorem Rn.store12 {g b:Nat} {f:F3} {w0 v v':World} {a0 a1 a2 a3 a4 a5 a6 a7 a8 a9 a10 a11:Value} {t:TypeId} (h:Rn g f w0 v) (hk:Below v.heap.size v v') (hb:Box v' b #[a0,a1,a2,a3,a4,a5,a6,a7,a8,a9,a10,a11] t) (h0:w0.heap.size ≤ b) (hg:g < w0.heap.size) (u0 u1 u2 u3 u4 u5 u6 u7 u8 u9 u10 u11:Value):Rn g f w0 ((((((((((((v'.setCell ⟨b,0,none⟩ u0).setCell ⟨b,1,none⟩ u1).setCell ⟨b,2,none⟩ u2).setCell ⟨b,3,none⟩ u3).setCell ⟨b,4,none⟩ u4).setCell ⟨b,5,none⟩ u5).setCell ⟨b,6,none⟩ u6).setCell ⟨b,7,none⟩ u7).setCell ⟨b,8,none⟩ u8).setCell ⟨b,9,none⟩ u9).setCell ⟨b,10,none⟩ u10).setCell ⟨b,11,none⟩ u11) ∧ Box ((((((((((((v'.setCell ⟨b,0,none⟩ u0).setCell ⟨b,1,none⟩ u1).setCell ⟨b,2,none⟩ u2).setCell ⟨b,3,none⟩ u3).setCell ⟨b,4,none⟩ u4).setCell ⟨b,5,none⟩ u5).setCell ⟨b,6,none⟩ u6).setCell ⟨b,7,none⟩ u7).setCell ⟨b,8,none⟩ u8).setCell ⟨b,9,none⟩ u9).setCell ⟨b,10,none⟩ u10).setCell ⟨b,11,none⟩ u11) b #[u0,u1,u2,u3,u4,u5,u6,u7,u8,u9,u10,u11] t ∧ ∀ TS:List TypeId,¬ t ∈ TS → Kept TS 0 v ((((((((((((v'.setCell ⟨b,0,none⟩ u0).setCell ⟨b,1,none⟩ u1).setCell ⟨b,2,none⟩ u2).setCell ⟨b,3,none⟩ u3).setCell ⟨b,4,none⟩ u4).setCell ⟨b,5,none⟩ u5).setCell ⟨b,6,none⟩ u6).setCell ⟨b,7,none⟩ u7).setCell ⟨b,8,none⟩ u8).setCell ⟨b,9,none⟩ u9).setCell ⟨b,10,none⟩ u10).setCell ⟨b,11,none⟩ u11):=⟨(h.bel hk).set12 h0 hg u0 u1 u2 u3 u4 u5 u6 u7 u8 u9 u10 u11,hb.set12 u0 u1 u2 u3 u4 u5 u6 u7 u8 u9 u10 u11,fun TS ht => (Kept.below hk).trans (Kept.set12 hb ht (by omega) u0 u1 u2 u3 u4 u5 u6 u7 u8 u9 u10 u11)⟩
theorem cut7_2 {α0 α1:Type} {Gt:Prop} (G:Nat → World → α0 → α1 → Prop) (Fa:Nat → World → α0 → α1 → Prop) (main:(∀ b F x0 x1,Fa b F x0 x1 → G b F x0 x1) → Gt) (k:∀ b F x0 x1,Fa b F x0 x1 → G b F x0 x1):Gt:=main k
theorem cut7_4 {α0 α1 α2 α3:Type} {Gt:Prop} (G:Nat → World → α0 → α1 → α2 → α3 → Prop) (Fa:Nat → World → α0 → α1 → α2 → α3 → Prop) (main:(∀ b F x0 x1 x2 x3,Fa b F x0 x1 x2 x3 → G b F x0 x1 x2 x3) → Gt) (k:∀ b F x0 x1 x2 x3,Fa b F x0 x1 x2 x3 → G b F x0 x1 x2 x3):Gt:=main k
theorem cut7_6 {α0 α1 α2 α3 α4 α5:Type} {Gt:Prop} (G:Nat → World → α0 → α1 → α2 → α3 → α4 → α5 → Prop) (Fa:Nat → World → α0 → α1 → α2 → α3 → α4 → α5 → Prop) (main:(∀ b F x0 x1 x2 x3 x4 x5,Fa b F x0 x1 x2 x3 x4 x5 → G b F x0 x1 x2 x3 x4 x5) → Gt) (k:∀ b F x0 x1 x2 x3 x4 x5,Fa b F x0 x1 x2 x3 x4 x5 → G b F x0 x1 x2 x3 x4 x5):Gt:=main k
theorem cut7_8 {α0 α1 α2 α3 α4 α5 α6 α7:Type} {Gt:Prop} (G:Nat → World → α0 → α1 → α2 → α3 → α4 → α5 → α6 → α7 → Prop) (Fa:Nat → World → α0 → α1 → α2 → α3 → α4 → α5 → α6 → α7 → Prop) (main:(∀ b F x0 x1 x2 x3 x4 x5 x6 x7,Fa b F x0 x1 x2 x3 x4 x5 x6 x7 → G b F x0 x1 x2 x3 x4 x5 x6 x7) → Gt) (k:∀ b F x0 x1 x2 x3 x4 x5 x6 x7,Fa b F x0 x1 x2 x3 x4 x5 x6 x7 → G b F x0 x1 x2 x3 x4 x5 x6 x7):Gt:=main k
theorem dsV_len (l:List Fld) (num:Int):(dsV l num).length ≤ l.length:=by
 unfold dsV allV
 rw [List.length_map]
 exact List.length_filter_le _ _
theorem Rb.small {β:Type} {z:β} {R:List Int → β → Prop} {g:Nat} {w:World} {q:Option Addr} {d:Nat} {L:List FA} {num:Int} {xs:List β} (h:Rb z R (dsV (L.map FA.f) num) xs) (m:MsIn g w q d L):xs.length ≤ 4194304:=by
 have h1:=h.1
 have h2:=dsV_len (L.map FA.f) num
 rw [List.length_map] at h2
 have:=m.small.1
 omega
theorem Rx.wst {g:Nat} {w0 v:World} (h:Rx g w0 v):WstE g v:=by obtain ⟨f,h⟩:=h; exact h.2
theorem Rx.ms {g:Nat} {w0 v:World} {q:Option Addr} {d:Nat} {L:List FA} (h:Rx g w0 v) (m:MsIn g w0 q d L):MsIn g v q d L:=by obtain ⟨f,h⟩:=h; exact m.stay h.1.1
end Go.Proofs.YtaikppgoahdjbaaGreat
