import Derived.Test.YtnmciappielkcaaV31
import Derived.Test.YtnmciappielkcaaV42
set_option maxRecDepth 100000
set_option maxHeartbeats 8000000
namespace Go.Proofs.Ytnmciappielkcaa
open Go.RowKit
set_option linter.unusedVariables false
set_option linter.unusedSimpArgs false
def intsN:List Str:=[[97,120,101,115],[112,101,114,109],[107,101,114,110,101,108,95,115,104,97,112,101],[115,116,114,105,100,101,115],[112,97,100,115],[100,105,108,97,116,105,111,110,115],[118,97,108,117,101,95,105,110,116,115]]
def smallA (a:AtA):Prop:=(a.nm ∈ intsN → a.is.length ≤ 4096) ∧ (a.nm = [118,97,108,117,101,95,102,108,111,97,116,115] → a.fl.length ≤ 4096)
theorem rlists8_axes (cs:Array Value) (D:SeD) (a:AtA) (B B':Nat) (w:World) (hc:SeV B w cs D) (hB:B ≤ w.heap.size) (h:AtIn B' w a) (ht:okT8 a.T) (hm:smallA a) (hnm:a.nm = [97,120,101,115]) :
  Calls Try.prog 38 #[.agg cs,.agg (atCells a).toArray] w fun e w' => ∃ c2,e = .returned (.agg c2) ∧ SeV B w' c2 (updL D (listL a.d)) ∧ Below w.heap.size w w' ∧ ∀ OK:Nat → Prop,InB OK cs → (∀ b,w.heap.size ≤ b → OK b) → InB OK c2:=by
 have HC:=hide hc
 have HQ:=hide (SeIn.inB hc)
 have hs:cs.size = 36:=hc.1
 have HB:=hide hB
 have HM:=hide hm
 have H7:=hide h.2.2.2.2.2.2.1.1
 have H8:=hide h.2.2.2.2.2.2.2.1
 have H6:=hide h.2.2.2.2.2.1.1
 have HT:=hide ht
 have HN:=hide h.1
 have w2:=h.2.2.1
 have w3:=h.2.2.2.1
 have nl:=h.2.2.2.2.2.2.2.1.ls.len
 have nf:=h.2.2.2.2.2.2.1.1.ls.len
 clear hc h hB ht hm
 obtain ⟨nm,kd,f,i,s,⟨t0,t1,t2,t3,t4⟩,A,fl,qf,cf,is,qi,ci⟩:=a
 simp only at HN HM H7 H8 H6 HT w2 w3 nl nf hnm
 have HF:Hid (updL D (listL (AtA.d ⟨nm,kd,f,i,s,(t0,t1,t2,t3,t4),A,fl,qf,cf,is,qi,ci⟩)) = updD (updD D 1 (.l is)) 2 (.b true)):=hide (by rw [hnm]; rfl)
 have HL:is.length ≤ 4096:=(uh HM).1 (by rw [hnm]; simp [intsN])
 have n0:((strOfNums nm).toList == [97,120,101,115]) = true:=lit_yes8 (uh HN) [97,120,101,115] rfl _ rfl hnm
 clear hnm HM HN
 obtain ⟨L,hL⟩:∃ L,atCells ⟨nm,kd,f,i,s,(t0,t1,t2,t3,t4),A,fl,qf,cf,is,qi,ci⟩ = L:=⟨_,rfl⟩
 rw [hL]
 obtain ⟨W,hW⟩:∃ W,W = ((w.alloc (.cells cs 35)).alloc (.cells L.toArray 45)).alloc (.cells zeroC 35):=⟨_,rfl⟩
 have ZW:W.heap.size = w.heap.size + 3:=by rw [hW]; simp
 have BW:Hid (Below w.heap.size w W):=hide (by rw [hW]; exact se_below)
 have G0:Hid (Box W w.heap.size cs 35):=hide (by rw [hW]; exact se_box)
 have A0:Hid (Box W (w.heap.size + 1) L.toArray 45):=hide (by rw [hW]; exact se_boxA)
 have R0:Hid (Box W (w.heap.size + 2) zeroC 35):=hide (by rw [hW]; exact se_boxR)
 have k0:W.cell? ⟨w.heap.size + 1,0,none⟩ = some (.string (strOfNums nm)):=by rw [(uh A0).cell,← hL]; rfl
 have k11:W.cell? ⟨w.heap.size + 1,11,none⟩ = some (.slice qi is.length ci):=by rw [(uh A0).cell,← hL]; rfl
 have CI:=hide (rints8_any qi ci is W ((uh H8).below (uh BW)) HL)
 clear hL A0
 go_enter Try.func38,Try.ntmps38
 unfold zeroC at hW
 go_wp2_with (rw [← hW]; clear hW)
 refine (uh CI).mono ?_
 rintro e w1 ⟨⟨q,d,rfl,hI,hF⟩,hb⟩
 have HI:=hide hI
 have HFr:=hide hF
 have BB:=hide hb
 have Z1:Hid (W.heap.size ≤ w1.heap.size):=hide hb.size
 have BX:=hide (bl_tr (uh BW) hb)
 have G1:=hide ((uh G0).below hb)
 have R0b:=hide ((uh R0).below hb)
 clear CI hI hF hb k0 k11
 obtain ⟨⟨v1,c1⟩,f1⟩:(∃ v,w1.cell? ⟨w.heap.size,1,none⟩ = some v) ∧ w1.frozen? ⟨w.heap.size,1,none⟩ = false:=⟨(uh G1).some8 (by rw [hs]; decide),(uh G1).frozen 1⟩
 obtain ⟨⟨v2,c2⟩,f2⟩:(∃ v,w1.cell? ⟨w.heap.size,2,none⟩ = some v) ∧ w1.frozen? ⟨w.heap.size,2,none⟩ = false:=⟨(uh G1).some8 (by rw [hs]; decide),(uh G1).frozen 2⟩
 have hg:w.heap.size < w1.heap.size:=(uh G1).lt
 have CS:=hide (((uh G1).same 1 (.slice q is.length d)).same 2 (.bool true))
 have R1:Hid (Box ((w1.setCell ⟨w.heap.size,1,none⟩ (.slice q is.length d)).setCell ⟨w.heap.size,2,none⟩ (.bool true)) (w.heap.size + 2) zeroC 35):=hide (((uh R0b).other (by omega) 1 (.slice q is.length d)).other (by omega) 2 (.bool true))
 have ST:Hid (Stay w.heap.size w1 ((w1.setCell ⟨w.heap.size,1,none⟩ (.slice q is.length d)).setCell ⟨w.heap.size,2,none⟩ (.bool true))):=hide ((Stay.set8 _).trans (Stay.set8 _))
 have IN:=hide (((((uh HC).below (uh BX)).setL 1 q d is (ow_fresh (g:=w.heap.size) (uh HI) (uh HFr) (by have:=uh HB; omega) (by omega)) (by decide) rfl)).setB 2 true (by decide) rfl)
 have QS:Hid (∀ OK:Nat → Prop,InB OK cs → (∀ b,w.heap.size ≤ b → OK b) → InB OK ((cs.setIfInBounds 1 (.slice q is.length d)).setIfInBounds 2 (.bool true))):=hide (fun OK h1 h2 => InB.set (h1.set (fun b o n c e hp => by cases e; exact h2 b (by have:=(uh HFr b o rfl hp).1; omega))) (fun b o n c e hp => by cases e))
 have IQ:Hid (InB (fun b => b < w.heap.size ∨ w.heap.size + 3 ≤ b) ((cs.setIfInBounds 1 (.slice q is.length d)).setIfInBounds 2 (.bool true))):=hide (InB.set (((uh HQ).mono (fun b hb => .inl hb.2)).set (fun b o n c e hp => by cases e; exact .inr (by have:=(uh HFr b o rfl hp).1; omega))) (fun b o n c e hp => by cases e))
 have BV:Hid (Below w.heap.size w ((w1.setCell ⟨w.heap.size,1,none⟩ (.slice q is.length d)).setCell ⟨w.heap.size,2,none⟩ (.bool true))):=hide (bl_tr7 (uh BX) (bl_mono7 (uh ST).1 (Nat.le_refl _)))
 go_wp2_with (first | (refine wpList_load8 rfl _ rfl rfl (uh CS) (uh IN).1 ?_) | (refine wpList_store8 rfl _ _ rfl rfl rfl (uh R1) (uh IN).1 rfl (SeIn.ones (uh IN)) ?_; intro w5 b5 s5 _; have B5:=hide b5; have S5:=hide s5; clear b5 s5))
 have BT:Hid (Below w.heap.size w w5):=hide (bl_tr7 (uh BV) (bl_mono7 (uh S5).1 (by omega)))
 rw [uh HF]
 refine bodyPost_ret (results_se1 rfl rfl (uh B5) (uh IN).1) rfl ⟨_,rfl,?_,uh BT,?_⟩
 ·exact (uh IN).holdS (OK:=fun b => b < w.heap.size ∨ w.heap.size + 3 ≤ b) (uh IQ) (Nat.le_trans (uh ST).1.size (uh S5).1.size) (fun k hk hl => ((uh S5).block (by omega) (Nat.lt_of_lt_of_le hl (uh ST).1.size)).trans ((uh ST).block (by omega) hl))
 ·exact fun OK h1 h2 => uh QS OK h1 h2
theorem rlists8_perm (cs:Array Value) (D:SeD) (a:AtA) (B B':Nat) (w:World) (hc:SeV B w cs D) (hB:B ≤ w.heap.size) (h:AtIn B' w a) (ht:okT8 a.T) (hm:smallA a) (hnm:a.nm = [112,101,114,109]) :
  Calls Try.prog 38 #[.agg cs,.agg (atCells a).toArray] w fun e w' => ∃ c2,e = .returned (.agg c2) ∧ SeV B w' c2 (updL D (listL a.d)) ∧ Below w.heap.size w w' ∧ ∀ OK:Nat → Prop,InB OK cs → (∀ b,w.heap.size ≤ b → OK b) → InB OK c2:=by
 have HC:=hide hc
 have HQ:=hide (SeIn.inB hc)
 have hs:cs.size = 36:=hc.1
 have HB:=hide hB
 have HM:=hide hm
 have H7:=hide h.2.2.2.2.2.2.1.1
 have H8:=hide h.2.2.2.2.2.2.2.1
 have H6:=hide h.2.2.2.2.2.1.1
 have HT:=hide ht
 have HN:=hide h.1
 have w2:=h.2.2.1
 have w3:=h.2.2.2.1
 have nl:=h.2.2.2.2.2.2.2.1.ls.len
 have nf:=h.2.2.2.2.2.2.1.1.ls.len
 clear hc h hB ht hm
 obtain ⟨nm,kd,f,i,s,⟨t0,t1,t2,t3,t4⟩,A,fl,qf,cf,is,qi,ci⟩:=a
 simp only at HN HM H7 H8 H6 HT w2 w3 nl nf hnm
 have HF:Hid (updL D (listL (AtA.d ⟨nm,kd,f,i,s,(t0,t1,t2,t3,t4),A,fl,qf,cf,is,qi,ci⟩)) = updD (updD D 7 (.l is)) 8 (.b true)):=hide (by rw [hnm]; rfl)
 have HL:is.length ≤ 4096:=(uh HM).1 (by rw [hnm]; simp [intsN])
 have n0:((strOfNums nm).toList == [97,120,101,115]) = false:=lit_no8 (uh HN) [97,120,101,115] rfl _ rfl (by rw [hnm]; decide)
 have n1:((strOfNums nm).toList == [112,101,114,109]) = true:=lit_yes8 (uh HN) [112,101,114,109] rfl _ rfl hnm
 clear hnm HM HN
 obtain ⟨L,hL⟩:∃ L,atCells ⟨nm,kd,f,i,s,(t0,t1,t2,t3,t4),A,fl,qf,cf,is,qi,ci⟩ = L:=⟨_,rfl⟩
 rw [hL]
 obtain ⟨W,hW⟩:∃ W,W = ((w.alloc (.cells cs 35)).alloc (.cells L.toArray 45)).alloc (.cells zeroC 35):=⟨_,rfl⟩
 have ZW:W.heap.size = w.heap.size + 3:=by rw [hW]; simp
 have BW:Hid (Below w.heap.size w W):=hide (by rw [hW]; exact se_below)
 have G0:Hid (Box W w.heap.size cs 35):=hide (by rw [hW]; exact se_box)
 have A0:Hid (Box W (w.heap.size + 1) L.toArray 45):=hide (by rw [hW]; exact se_boxA)
 have R0:Hid (Box W (w.heap.size + 2) zeroC 35):=hide (by rw [hW]; exact se_boxR)
 have k0:W.cell? ⟨w.heap.size + 1,0,none⟩ = some (.string (strOfNums nm)):=by rw [(uh A0).cell,← hL]; rfl
 have k11:W.cell? ⟨w.heap.size + 1,11,none⟩ = some (.slice qi is.length ci):=by rw [(uh A0).cell,← hL]; rfl
 have CI:=hide (rints8_any qi ci is W ((uh H8).below (uh BW)) HL)
 clear hL A0
 go_enter Try.func38,Try.ntmps38
 unfold zeroC at hW
 go_wp2_with (rw [← hW]; clear hW)
 refine (uh CI).mono ?_
 rintro e w1 ⟨⟨q,d,rfl,hI,hF⟩,hb⟩
 have HI:=hide hI
 have HFr:=hide hF
 have BB:=hide hb
 have Z1:Hid (W.heap.size ≤ w1.heap.size):=hide hb.size
 have BX:=hide (bl_tr (uh BW) hb)
 have G1:=hide ((uh G0).below hb)
 have R0b:=hide ((uh R0).below hb)
 clear CI hI hF hb k0 k11
 obtain ⟨⟨v1,c7⟩,f7⟩:(∃ v,w1.cell? ⟨w.heap.size,7,none⟩ = some v) ∧ w1.frozen? ⟨w.heap.size,7,none⟩ = false:=⟨(uh G1).some8 (by rw [hs]; decide),(uh G1).frozen 7⟩
 obtain ⟨⟨v2,c8⟩,f8⟩:(∃ v,w1.cell? ⟨w.heap.size,8,none⟩ = some v) ∧ w1.frozen? ⟨w.heap.size,8,none⟩ = false:=⟨(uh G1).some8 (by rw [hs]; decide),(uh G1).frozen 8⟩
 have hg:w.heap.size < w1.heap.size:=(uh G1).lt
 have CS:=hide (((uh G1).same 7 (.slice q is.length d)).same 8 (.bool true))
 have R1:Hid (Box ((w1.setCell ⟨w.heap.size,7,none⟩ (.slice q is.length d)).setCell ⟨w.heap.size,8,none⟩ (.bool true)) (w.heap.size + 2) zeroC 35):=hide (((uh R0b).other (by omega) 7 (.slice q is.length d)).other (by omega) 8 (.bool true))
 have ST:Hid (Stay w.heap.size w1 ((w1.setCell ⟨w.heap.size,7,none⟩ (.slice q is.length d)).setCell ⟨w.heap.size,8,none⟩ (.bool true))):=hide ((Stay.set8 _).trans (Stay.set8 _))
 have IN:=hide (((((uh HC).below (uh BX)).setL 7 q d is (ow_fresh (g:=w.heap.size) (uh HI) (uh HFr) (by have:=uh HB; omega) (by omega)) (by decide) rfl)).setB 8 true (by decide) rfl)
 have QS:Hid (∀ OK:Nat → Prop,InB OK cs → (∀ b,w.heap.size ≤ b → OK b) → InB OK ((cs.setIfInBounds 7 (.slice q is.length d)).setIfInBounds 8 (.bool true))):=hide (fun OK h1 h2 => InB.set (h1.set (fun b o n c e hp => by cases e; exact h2 b (by have:=(uh HFr b o rfl hp).1; omega))) (fun b o n c e hp => by cases e))
 have IQ:Hid (InB (fun b => b < w.heap.size ∨ w.heap.size + 3 ≤ b) ((cs.setIfInBounds 7 (.slice q is.length d)).setIfInBounds 8 (.bool true))):=hide (InB.set (((uh HQ).mono (fun b hb => .inl hb.2)).set (fun b o n c e hp => by cases e; exact .inr (by have:=(uh HFr b o rfl hp).1; omega))) (fun b o n c e hp => by cases e))
 have BV:Hid (Below w.heap.size w ((w1.setCell ⟨w.heap.size,7,none⟩ (.slice q is.length d)).setCell ⟨w.heap.size,8,none⟩ (.bool true))):=hide (bl_tr7 (uh BX) (bl_mono7 (uh ST).1 (Nat.le_refl _)))
 go_wp2_with (first | (refine wpList_load8 rfl _ rfl rfl (uh CS) (uh IN).1 ?_) | (refine wpList_store8 rfl _ _ rfl rfl rfl (uh R1) (uh IN).1 rfl (SeIn.ones (uh IN)) ?_; intro w5 b5 s5 _; have B5:=hide b5; have S5:=hide s5; clear b5 s5))
 have BT:Hid (Below w.heap.size w w5):=hide (bl_tr7 (uh BV) (bl_mono7 (uh S5).1 (by omega)))
 rw [uh HF]
 refine bodyPost_ret (results_se1 rfl rfl (uh B5) (uh IN).1) rfl ⟨_,rfl,?_,uh BT,?_⟩
 ·exact (uh IN).holdS (OK:=fun b => b < w.heap.size ∨ w.heap.size + 3 ≤ b) (uh IQ) (Nat.le_trans (uh ST).1.size (uh S5).1.size) (fun k hk hl => ((uh S5).block (by omega) (Nat.lt_of_lt_of_le hl (uh ST).1.size)).trans ((uh ST).block (by omega) hl))
 ·exact fun OK h1 h2 => uh QS OK h1 h2
theorem rlists8_kernel_shape (cs:Array Value) (D:SeD) (a:AtA) (B B':Nat) (w:World) (hc:SeV B w cs D) (hB:B ≤ w.heap.size) (h:AtIn B' w a) (ht:okT8 a.T) (hm:smallA a) (hnm:a.nm = [107,101,114,110,101,108,95,115,104,97,112,101]) :
  Calls Try.prog 38 #[.agg cs,.agg (atCells a).toArray] w fun e w' => ∃ c2,e = .returned (.agg c2) ∧ SeV B w' c2 (updL D (listL a.d)) ∧ Below w.heap.size w w' ∧ ∀ OK:Nat → Prop,InB OK cs → (∀ b,w.heap.size ≤ b → OK b) → InB OK c2:=by
 have HC:=hide hc
 have HQ:=hide (SeIn.inB hc)
 have hs:cs.size = 36:=hc.1
 have HB:=hide hB
 have HM:=hide hm
 have H7:=hide h.2.2.2.2.2.2.1.1
 have H8:=hide h.2.2.2.2.2.2.2.1
 have H6:=hide h.2.2.2.2.2.1.1
 have HT:=hide ht
 have HN:=hide h.1
 have w2:=h.2.2.1
 have w3:=h.2.2.2.1
 have nl:=h.2.2.2.2.2.2.2.1.ls.len
 have nf:=h.2.2.2.2.2.2.1.1.ls.len
 clear hc h hB ht hm
 obtain ⟨nm,kd,f,i,s,⟨t0,t1,t2,t3,t4⟩,A,fl,qf,cf,is,qi,ci⟩:=a
 simp only at HN HM H7 H8 H6 HT w2 w3 nl nf hnm
 have HF:Hid (updL D (listL (AtA.d ⟨nm,kd,f,i,s,(t0,t1,t2,t3,t4),A,fl,qf,cf,is,qi,ci⟩)) = updD D 20 (.l is)):=hide (by rw [hnm]; rfl)
 have HL:is.length ≤ 4096:=(uh HM).1 (by rw [hnm]; simp [intsN])
 have n0:((strOfNums nm).toList == [97,120,101,115]) = false:=lit_no8 (uh HN) [97,120,101,115] rfl _ rfl (by rw [hnm]; decide)
 have n1:((strOfNums nm).toList == [112,101,114,109]) = false:=lit_no8 (uh HN) [112,101,114,109] rfl _ rfl (by rw [hnm]; decide)
 have n2:((strOfNums nm).toList == [107,101,114,110,101,108,95,115,104,97,112,101]) = true:=lit_yes8 (uh HN) [107,101,114,110,101,108,95,115,104,97,112,101] rfl _ rfl hnm
 clear hnm HM HN
 obtain ⟨L,hL⟩:∃ L,atCells ⟨nm,kd,f,i,s,(t0,t1,t2,t3,t4),A,fl,qf,cf,is,qi,ci⟩ = L:=⟨_,rfl⟩
 rw [hL]
 obtain ⟨W,hW⟩:∃ W,W = ((w.alloc (.cells cs 35)).alloc (.cells L.toArray 45)).alloc (.cells zeroC 35):=⟨_,rfl⟩
 have ZW:W.heap.size = w.heap.size + 3:=by rw [hW]; simp
 have BW:Hid (Below w.heap.size w W):=hide (by rw [hW]; exact se_below)
 have G0:Hid (Box W w.heap.size cs 35):=hide (by rw [hW]; exact se_box)
 have A0:Hid (Box W (w.heap.size + 1) L.toArray 45):=hide (by rw [hW]; exact se_boxA)
 have R0:Hid (Box W (w.heap.size + 2) zeroC 35):=hide (by rw [hW]; exact se_boxR)
 have k0:W.cell? ⟨w.heap.size + 1,0,none⟩ = some (.string (strOfNums nm)):=by rw [(uh A0).cell,← hL]; rfl
 have k11:W.cell? ⟨w.heap.size + 1,11,none⟩ = some (.slice qi is.length ci):=by rw [(uh A0).cell,← hL]; rfl
 have CI:=hide (rints8_any qi ci is W ((uh H8).below (uh BW)) HL)
 clear hL A0
 go_enter Try.func38,Try.ntmps38
 unfold zeroC at hW
 go_wp2_with (rw [← hW]; clear hW)
 refine (uh CI).mono ?_
 rintro e w1 ⟨⟨q,d,rfl,hI,hF⟩,hb⟩
 have HI:=hide hI
 have HFr:=hide hF
 have BB:=hide hb
 have Z1:Hid (W.heap.size ≤ w1.heap.size):=hide hb.size
 have BX:=hide (bl_tr (uh BW) hb)
 have G1:=hide ((uh G0).below hb)
 have R0b:=hide ((uh R0).below hb)
 clear CI hI hF hb k0 k11
 obtain ⟨⟨v1,c20⟩,f20⟩:(∃ v,w1.cell? ⟨w.heap.size,20,none⟩ = some v) ∧ w1.frozen? ⟨w.heap.size,20,none⟩ = false:=⟨(uh G1).some8 (by rw [hs]; decide),(uh G1).frozen 20⟩
 have hg:w.heap.size < w1.heap.size:=(uh G1).lt
 have CS:=hide ((uh G1).same 20 (.slice q is.length d))
 have R1:Hid (Box (w1.setCell ⟨w.heap.size,20,none⟩ (.slice q is.length d)) (w.heap.size + 2) zeroC 35):=hide ((uh R0b).other (by omega) 20 (.slice q is.length d))
 have ST:Hid (Stay w.heap.size w1 (w1.setCell ⟨w.heap.size,20,none⟩ (.slice q is.length d))):=hide (Stay.set8 _)
 have IN:=hide ((((uh HC).below (uh BX)).setL 20 q d is (ow_fresh (g:=w.heap.size) (uh HI) (uh HFr) (by have:=uh HB; omega) (by omega)) (by decide) rfl))
 have QS:Hid (∀ OK:Nat → Prop,InB OK cs → (∀ b,w.heap.size ≤ b → OK b) → InB OK (cs.setIfInBounds 20 (.slice q is.length d))):=hide (fun OK h1 h2 => h1.set (fun b o n c e hp => by cases e; exact h2 b (by have:=(uh HFr b o rfl hp).1; omega)))
 have IQ:Hid (InB (fun b => b < w.heap.size ∨ w.heap.size + 3 ≤ b) (cs.setIfInBounds 20 (.slice q is.length d))):=hide (((uh HQ).mono (fun b hb => .inl hb.2)).set (fun b o n c e hp => by cases e; exact .inr (by have:=(uh HFr b o rfl hp).1; omega)))
 have BV:Hid (Below w.heap.size w (w1.setCell ⟨w.heap.size,20,none⟩ (.slice q is.length d))):=hide (bl_tr7 (uh BX) (bl_mono7 (uh ST).1 (Nat.le_refl _)))
 go_wp2_with (first | (refine wpList_load8 rfl _ rfl rfl (uh CS) (uh IN).1 ?_) | (refine wpList_store8 rfl _ _ rfl rfl rfl (uh R1) (uh IN).1 rfl (SeIn.ones (uh IN)) ?_; intro w5 b5 s5 _; have B5:=hide b5; have S5:=hide s5; clear b5 s5))
 have BT:Hid (Below w.heap.size w w5):=hide (bl_tr7 (uh BV) (bl_mono7 (uh S5).1 (by omega)))
 rw [uh HF]
 refine bodyPost_ret (results_se1 rfl rfl (uh B5) (uh IN).1) rfl ⟨_,rfl,?_,uh BT,?_⟩
 ·exact (uh IN).holdS (OK:=fun b => b < w.heap.size ∨ w.heap.size + 3 ≤ b) (uh IQ) (Nat.le_trans (uh ST).1.size (uh S5).1.size) (fun k hk hl => ((uh S5).block (by omega) (Nat.lt_of_lt_of_le hl (uh ST).1.size)).trans ((uh ST).block (by omega) hl))
 ·exact fun OK h1 h2 => uh QS OK h1 h2
theorem rlists8_strides (cs:Array Value) (D:SeD) (a:AtA) (B B':Nat) (w:World) (hc:SeV B w cs D) (hB:B ≤ w.heap.size) (h:AtIn B' w a) (ht:okT8 a.T) (hm:smallA a) (hnm:a.nm = [115,116,114,105,100,101,115]) :
  Calls Try.prog 38 #[.agg cs,.agg (atCells a).toArray] w fun e w' => ∃ c2,e = .returned (.agg c2) ∧ SeV B w' c2 (updL D (listL a.d)) ∧ Below w.heap.size w w' ∧ ∀ OK:Nat → Prop,InB OK cs → (∀ b,w.heap.size ≤ b → OK b) → InB OK c2:=by
 have HC:=hide hc
 have HQ:=hide (SeIn.inB hc)
 have hs:cs.size = 36:=hc.1
 have HB:=hide hB
 have HM:=hide hm
 have H7:=hide h.2.2.2.2.2.2.1.1
 have H8:=hide h.2.2.2.2.2.2.2.1
 have H6:=hide h.2.2.2.2.2.1.1
 have HT:=hide ht
 have HN:=hide h.1
 have w2:=h.2.2.1
 have w3:=h.2.2.2.1
 have nl:=h.2.2.2.2.2.2.2.1.ls.len
 have nf:=h.2.2.2.2.2.2.1.1.ls.len
 clear hc h hB ht hm
 obtain ⟨nm,kd,f,i,s,⟨t0,t1,t2,t3,t4⟩,A,fl,qf,cf,is,qi,ci⟩:=a
 simp only at HN HM H7 H8 H6 HT w2 w3 nl nf hnm
 have HF:Hid (updL D (listL (AtA.d ⟨nm,kd,f,i,s,(t0,t1,t2,t3,t4),A,fl,qf,cf,is,qi,ci⟩)) = updD D 21 (.l is)):=hide (by rw [hnm]; rfl)
 have HL:is.length ≤ 4096:=(uh HM).1 (by rw [hnm]; simp [intsN])
 have n0:((strOfNums nm).toList == [97,120,101,115]) = false:=lit_no8 (uh HN) [97,120,101,115] rfl _ rfl (by rw [hnm]; decide)
 have n1:((strOfNums nm).toList == [112,101,114,109]) = false:=lit_no8 (uh HN) [112,101,114,109] rfl _ rfl (by rw [hnm]; decide)
 have n2:((strOfNums nm).toList == [107,101,114,110,101,108,95,115,104,97,112,101]) = false:=lit_no8 (uh HN) [107,101,114,110,101,108,95,115,104,97,112,101] rfl _ rfl (by rw [hnm]; decide)
 have n3:((strOfNums nm).toList == [115,116,114,105,100,101,115]) = true:=lit_yes8 (uh HN) [115,116,114,105,100,101,115] rfl _ rfl hnm
 clear hnm HM HN
 obtain ⟨L,hL⟩:∃ L,atCells ⟨nm,kd,f,i,s,(t0,t1,t2,t3,t4),A,fl,qf,cf,is,qi,ci⟩ = L:=⟨_,rfl⟩
 rw [hL]
 obtain ⟨W,hW⟩:∃ W,W = ((w.alloc (.cells cs 35)).alloc (.cells L.toArray 45)).alloc (.cells zeroC 35):=⟨_,rfl⟩
 have ZW:W.heap.size = w.heap.size + 3:=by rw [hW]; simp
 have BW:Hid (Below w.heap.size w W):=hide (by rw [hW]; exact se_below)
 have G0:Hid (Box W w.heap.size cs 35):=hide (by rw [hW]; exact se_box)
 have A0:Hid (Box W (w.heap.size + 1) L.toArray 45):=hide (by rw [hW]; exact se_boxA)
 have R0:Hid (Box W (w.heap.size + 2) zeroC 35):=hide (by rw [hW]; exact se_boxR)
 have k0:W.cell? ⟨w.heap.size + 1,0,none⟩ = some (.string (strOfNums nm)):=by rw [(uh A0).cell,← hL]; rfl
 have k11:W.cell? ⟨w.heap.size + 1,11,none⟩ = some (.slice qi is.length ci):=by rw [(uh A0).cell,← hL]; rfl
 have CI:=hide (rints8_any qi ci is W ((uh H8).below (uh BW)) HL)
 clear hL A0
 go_enter Try.func38,Try.ntmps38
 unfold zeroC at hW
 go_wp2_with (rw [← hW]; clear hW)
 refine (uh CI).mono ?_
 rintro e w1 ⟨⟨q,d,rfl,hI,hF⟩,hb⟩
 have HI:=hide hI
 have HFr:=hide hF
 have BB:=hide hb
 have Z1:Hid (W.heap.size ≤ w1.heap.size):=hide hb.size
 have BX:=hide (bl_tr (uh BW) hb)
 have G1:=hide ((uh G0).below hb)
 have R0b:=hide ((uh R0).below hb)
 clear CI hI hF hb k0 k11
 obtain ⟨⟨v1,c21⟩,f21⟩:(∃ v,w1.cell? ⟨w.heap.size,21,none⟩ = some v) ∧ w1.frozen? ⟨w.heap.size,21,none⟩ = false:=⟨(uh G1).some8 (by rw [hs]; decide),(uh G1).frozen 21⟩
 have hg:w.heap.size < w1.heap.size:=(uh G1).lt
 have CS:=hide ((uh G1).same 21 (.slice q is.length d))
 have R1:Hid (Box (w1.setCell ⟨w.heap.size,21,none⟩ (.slice q is.length d)) (w.heap.size + 2) zeroC 35):=hide ((uh R0b).other (by omega) 21 (.slice q is.length d))
 have ST:Hid (Stay w.heap.size w1 (w1.setCell ⟨w.heap.size,21,none⟩ (.slice q is.length d))):=hide (Stay.set8 _)
 have IN:=hide ((((uh HC).below (uh BX)).setL 21 q d is (ow_fresh (g:=w.heap.size) (uh HI) (uh HFr) (by have:=uh HB; omega) (by omega)) (by decide) rfl))
 have QS:Hid (∀ OK:Nat → Prop,InB OK cs → (∀ b,w.heap.size ≤ b → OK b) → InB OK (cs.setIfInBounds 21 (.slice q is.length d))):=hide (fun OK h1 h2 => h1.set (fun b o n c e hp => by cases e; exact h2 b (by have:=(uh HFr b o rfl hp).1; omega)))
 have IQ:Hid (InB (fun b => b < w.heap.size ∨ w.heap.size + 3 ≤ b) (cs.setIfInBounds 21 (.slice q is.length d))):=hide (((uh HQ).mono (fun b hb => .inl hb.2)).set (fun b o n c e hp => by cases e; exact .inr (by have:=(uh HFr b o rfl hp).1; omega)))
 have BV:Hid (Below w.heap.size w (w1.setCell ⟨w.heap.size,21,none⟩ (.slice q is.length d))):=hide (bl_tr7 (uh BX) (bl_mono7 (uh ST).1 (Nat.le_refl _)))
 go_wp2_with (first | (refine wpList_load8 rfl _ rfl rfl (uh CS) (uh IN).1 ?_) | (refine wpList_store8 rfl _ _ rfl rfl rfl (uh R1) (uh IN).1 rfl (SeIn.ones (uh IN)) ?_; intro w5 b5 s5 _; have B5:=hide b5; have S5:=hide s5; clear b5 s5))
 have BT:Hid (Below w.heap.size w w5):=hide (bl_tr7 (uh BV) (bl_mono7 (uh S5).1 (by omega)))
 rw [uh HF]
 refine bodyPost_ret (results_se1 rfl rfl (uh B5) (uh IN).1) rfl ⟨_,rfl,?_,uh BT,?_⟩
 ·exact (uh IN).holdS (OK:=fun b => b < w.heap.size ∨ w.heap.size + 3 ≤ b) (uh IQ) (Nat.le_trans (uh ST).1.size (uh S5).1.size) (fun k hk hl => ((uh S5).block (by omega) (Nat.lt_of_lt_of_le hl (uh ST).1.size)).trans ((uh ST).block (by omega) hl))
 ·exact fun OK h1 h2 => uh QS OK h1 h2
theorem rlists8_pads (cs:Array Value) (D:SeD) (a:AtA) (B B':Nat) (w:World) (hc:SeV B w cs D) (hB:B ≤ w.heap.size) (h:AtIn B' w a) (ht:okT8 a.T) (hm:smallA a) (hnm:a.nm = [112,97,100,115]) :
  Calls Try.prog 38 #[.agg cs,.agg (atCells a).toArray] w fun e w' => ∃ c2,e = .returned (.agg c2) ∧ SeV B w' c2 (updL D (listL a.d)) ∧ Below w.heap.size w w' ∧ ∀ OK:Nat → Prop,InB OK cs → (∀ b,w.heap.size ≤ b → OK b) → InB OK c2:=by
 have HC:=hide hc
 have HQ:=hide (SeIn.inB hc)
 have hs:cs.size = 36:=hc.1
 have HB:=hide hB
 have HM:=hide hm
 have H7:=hide h.2.2.2.2.2.2.1.1
 have H8:=hide h.2.2.2.2.2.2.2.1
 have H6:=hide h.2.2.2.2.2.1.1
 have HT:=hide ht
 have HN:=hide h.1
 have w2:=h.2.2.1
 have w3:=h.2.2.2.1
 have nl:=h.2.2.2.2.2.2.2.1.ls.len
 have nf:=h.2.2.2.2.2.2.1.1.ls.len
 clear hc h hB ht hm
 obtain ⟨nm,kd,f,i,s,⟨t0,t1,t2,t3,t4⟩,A,fl,qf,cf,is,qi,ci⟩:=a
 simp only at HN HM H7 H8 H6 HT w2 w3 nl nf hnm
 have HF:Hid (updL D (listL (AtA.d ⟨nm,kd,f,i,s,(t0,t1,t2,t3,t4),A,fl,qf,cf,is,qi,ci⟩)) = updD D 22 (.l is)):=hide (by rw [hnm]; rfl)
 have HL:is.length ≤ 4096:=(uh HM).1 (by rw [hnm]; simp [intsN])
 have n0:((strOfNums nm).toList == [97,120,101,115]) = false:=lit_no8 (uh HN) [97,120,101,115] rfl _ rfl (by rw [hnm]; decide)
 have n1:((strOfNums nm).toList == [112,101,114,109]) = false:=lit_no8 (uh HN) [112,101,114,109] rfl _ rfl (by rw [hnm]; decide)
 have n2:((strOfNums nm).toList == [107,101,114,110,101,108,95,115,104,97,112,101]) = false:=lit_no8 (uh HN) [107,101,114,110,101,108,95,115,104,97,112,101] rfl _ rfl (by rw [hnm]; decide)
 have n3:((strOfNums nm).toList == [115,116,114,105,100,101,115]) = false:=lit_no8 (uh HN) [115,116,114,105,100,101,115] rfl _ rfl (by rw [hnm]; decide)
 have n4:((strOfNums nm).toList == [112,97,100,115]) = true:=lit_yes8 (uh HN) [112,97,100,115] rfl _ rfl hnm
 clear hnm HM HN
 obtain ⟨L,hL⟩:∃ L,atCells ⟨nm,kd,f,i,s,(t0,t1,t2,t3,t4),A,fl,qf,cf,is,qi,ci⟩ = L:=⟨_,rfl⟩
 rw [hL]
 obtain ⟨W,hW⟩:∃ W,W = ((w.alloc (.cells cs 35)).alloc (.cells L.toArray 45)).alloc (.cells zeroC 35):=⟨_,rfl⟩
 have ZW:W.heap.size = w.heap.size + 3:=by rw [hW]; simp
 have BW:Hid (Below w.heap.size w W):=hide (by rw [hW]; exact se_below)
 have G0:Hid (Box W w.heap.size cs 35):=hide (by rw [hW]; exact se_box)
 have A0:Hid (Box W (w.heap.size + 1) L.toArray 45):=hide (by rw [hW]; exact se_boxA)
 have R0:Hid (Box W (w.heap.size + 2) zeroC 35):=hide (by rw [hW]; exact se_boxR)
 have k0:W.cell? ⟨w.heap.size + 1,0,none⟩ = some (.string (strOfNums nm)):=by rw [(uh A0).cell,← hL]; rfl
 have k11:W.cell? ⟨w.heap.size + 1,11,none⟩ = some (.slice qi is.length ci):=by rw [(uh A0).cell,← hL]; rfl
 have CI:=hide (rints8_any qi ci is W ((uh H8).below (uh BW)) HL)
 clear hL A0
 go_enter Try.func38,Try.ntmps38
 unfold zeroC at hW
 go_wp2_with (rw [← hW]; clear hW)
 refine (uh CI).mono ?_
 rintro e w1 ⟨⟨q,d,rfl,hI,hF⟩,hb⟩
 have HI:=hide hI
 have HFr:=hide hF
 have BB:=hide hb
 have Z1:Hid (W.heap.size ≤ w1.heap.size):=hide hb.size
 have BX:=hide (bl_tr (uh BW) hb)
 have G1:=hide ((uh G0).below hb)
 have R0b:=hide ((uh R0).below hb)
 clear CI hI hF hb k0 k11
 obtain ⟨⟨v1,c22⟩,f22⟩:(∃ v,w1.cell? ⟨w.heap.size,22,none⟩ = some v) ∧ w1.frozen? ⟨w.heap.size,22,none⟩ = false:=⟨(uh G1).some8 (by rw [hs]; decide),(uh G1).frozen 22⟩
 have hg:w.heap.size < w1.heap.size:=(uh G1).lt
 have CS:=hide ((uh G1).same 22 (.slice q is.length d))
 have R1:Hid (Box (w1.setCell ⟨w.heap.size,22,none⟩ (.slice q is.length d)) (w.heap.size + 2) zeroC 35):=hide ((uh R0b).other (by omega) 22 (.slice q is.length d))
 have ST:Hid (Stay w.heap.size w1 (w1.setCell ⟨w.heap.size,22,none⟩ (.slice q is.length d))):=hide (Stay.set8 _)
 have IN:=hide ((((uh HC).below (uh BX)).setL 22 q d is (ow_fresh (g:=w.heap.size) (uh HI) (uh HFr) (by have:=uh HB; omega) (by omega)) (by decide) rfl))
 have QS:Hid (∀ OK:Nat → Prop,InB OK cs → (∀ b,w.heap.size ≤ b → OK b) → InB OK (cs.setIfInBounds 22 (.slice q is.length d))):=hide (fun OK h1 h2 => h1.set (fun b o n c e hp => by cases e; exact h2 b (by have:=(uh HFr b o rfl hp).1; omega)))
 have IQ:Hid (InB (fun b => b < w.heap.size ∨ w.heap.size + 3 ≤ b) (cs.setIfInBounds 22 (.slice q is.length d))):=hide (((uh HQ).mono (fun b hb => .inl hb.2)).set (fun b o n c e hp => by cases e; exact .inr (by have:=(uh HFr b o rfl hp).1; omega)))
 have BV:Hid (Below w.heap.size w (w1.setCell ⟨w.heap.size,22,none⟩ (.slice q is.length d))):=hide (bl_tr7 (uh BX) (bl_mono7 (uh ST).1 (Nat.le_refl _)))
 go_wp2_with (first | (refine wpList_load8 rfl _ rfl rfl (uh CS) (uh IN).1 ?_) | (refine wpList_store8 rfl _ _ rfl rfl rfl (uh R1) (uh IN).1 rfl (SeIn.ones (uh IN)) ?_; intro w5 b5 s5 _; have B5:=hide b5; have S5:=hide s5; clear b5 s5))
 have BT:Hid (Below w.heap.size w w5):=hide (bl_tr7 (uh BV) (bl_mono7 (uh S5).1 (by omega)))
 rw [uh HF]
 refine bodyPost_ret (results_se1 rfl rfl (uh B5) (uh IN).1) rfl ⟨_,rfl,?_,uh BT,?_⟩
 ·exact (uh IN).holdS (OK:=fun b => b < w.heap.size ∨ w.heap.size + 3 ≤ b) (uh IQ) (Nat.le_trans (uh ST).1.size (uh S5).1.size) (fun k hk hl => ((uh S5).block (by omega) (Nat.lt_of_lt_of_le hl (uh ST).1.size)).trans ((uh ST).block (by omega) hl))
 ·exact fun OK h1 h2 => uh QS OK h1 h2
theorem rlists8_dilations (cs:Array Value) (D:SeD) (a:AtA) (B B':Nat) (w:World) (hc:SeV B w cs D) (hB:B ≤ w.heap.size) (h:AtIn B' w a) (ht:okT8 a.T) (hm:smallA a) (hnm:a.nm = [100,105,108,97,116,105,111,110,115]) :
  Calls Try.prog 38 #[.agg cs,.agg (atCells a).toArray] w fun e w' => ∃ c2,e = .returned (.agg c2) ∧ SeV B w' c2 (updL D (listL a.d)) ∧ Below w.heap.size w w' ∧ ∀ OK:Nat → Prop,InB OK cs → (∀ b,w.heap.size ≤ b → OK b) → InB OK c2:=by
 have HC:=hide hc
 have HQ:=hide (SeIn.inB hc)
 have hs:cs.size = 36:=hc.1
 have HB:=hide hB
 have HM:=hide hm
 have H7:=hide h.2.2.2.2.2.2.1.1
 have H8:=hide h.2.2.2.2.2.2.2.1
 have H6:=hide h.2.2.2.2.2.1.1
 have HT:=hide ht
 have HN:=hide h.1
 have w2:=h.2.2.1
 have w3:=h.2.2.2.1
 have nl:=h.2.2.2.2.2.2.2.1.ls.len
 have nf:=h.2.2.2.2.2.2.1.1.ls.len
 clear hc h hB ht hm
 obtain ⟨nm,kd,f,i,s,⟨t0,t1,t2,t3,t4⟩,A,fl,qf,cf,is,qi,ci⟩:=a
 simp only at HN HM H7 H8 H6 HT w2 w3 nl nf hnm
 have HF:Hid (updL D (listL (AtA.d ⟨nm,kd,f,i,s,(t0,t1,t2,t3,t4),A,fl,qf,cf,is,qi,ci⟩)) = updD D 23 (.l is)):=hide (by rw [hnm]; rfl)
 have HL:is.length ≤ 4096:=(uh HM).1 (by rw [hnm]; simp [intsN])
 have n0:((strOfNums nm).toList == [97,120,101,115]) = false:=lit_no8 (uh HN) [97,120,101,115] rfl _ rfl (by rw [hnm]; decide)
 have n1:((strOfNums nm).toList == [112,101,114,109]) = false:=lit_no8 (uh HN) [112,101,114,109] rfl _ rfl (by rw [hnm]; decide)
 have n2:((strOfNums nm).toList == [107,101,114,110,101,108,95,115,104,97,112,101]) = false:=lit_no8 (uh HN) [107,101,114,110,101,108,95,115,104,97,112,101] rfl _ rfl (by rw [hnm]; decide)
 have n3:((strOfNums nm).toList == [115,116,114,105,100,101,115]) = false:=lit_no8 (uh HN) [115,116,114,105,100,101,115] rfl _ rfl (by rw [hnm]; decide)
 have n4:((strOfNums nm).toList == [112,97,100,115]) = false:=lit_no8 (uh HN) [112,97,100,115] rfl _ rfl (by rw [hnm]; decide)
 have n5:((strOfNums nm).toList == [100,105,108,97,116,105,111,110,115]) = true:=lit_yes8 (uh HN) [100,105,108,97,116,105,111,110,115] rfl _ rfl hnm
 clear hnm HM HN
 obtain ⟨L,hL⟩:∃ L,atCells ⟨nm,kd,f,i,s,(t0,t1,t2,t3,t4),A,fl,qf,cf,is,qi,ci⟩ = L:=⟨_,rfl⟩
 rw [hL]
 obtain ⟨W,hW⟩:∃ W,W = ((w.alloc (.cells cs 35)).alloc (.cells L.toArray 45)).alloc (.cells zeroC 35):=⟨_,rfl⟩
 have ZW:W.heap.size = w.heap.size + 3:=by rw [hW]; simp
 have BW:Hid (Below w.heap.size w W):=hide (by rw [hW]; exact se_below)
 have G0:Hid (Box W w.heap.size cs 35):=hide (by rw [hW]; exact se_box)
 have A0:Hid (Box W (w.heap.size + 1) L.toArray 45):=hide (by rw [hW]; exact se_boxA)
 have R0:Hid (Box W (w.heap.size + 2) zeroC 35):=hide (by rw [hW]; exact se_boxR)
 have k0:W.cell? ⟨w.heap.size + 1,0,none⟩ = some (.string (strOfNums nm)):=by rw [(uh A0).cell,← hL]; rfl
 have k11:W.cell? ⟨w.heap.size + 1,11,none⟩ = some (.slice qi is.length ci):=by rw [(uh A0).cell,← hL]; rfl
 have CI:=hide (rints8_any qi ci is W ((uh H8).below (uh BW)) HL)
 clear hL A0
 go_enter Try.func38,Try.ntmps38
 unfold zeroC at hW
 go_wp2_with (rw [← hW]; clear hW)
 refine (uh CI).mono ?_
 rintro e w1 ⟨⟨q,d,rfl,hI,hF⟩,hb⟩
 have HI:=hide hI
 have HFr:=hide hF
 have BB:=hide hb
 have Z1:Hid (W.heap.size ≤ w1.heap.size):=hide hb.size
 have BX:=hide (bl_tr (uh BW) hb)
 have G1:=hide ((uh G0).below hb)
 have R0b:=hide ((uh R0).below hb)
 clear CI hI hF hb k0 k11
 obtain ⟨⟨v1,c23⟩,f23⟩:(∃ v,w1.cell? ⟨w.heap.size,23,none⟩ = some v) ∧ w1.frozen? ⟨w.heap.size,23,none⟩ = false:=⟨(uh G1).some8 (by rw [hs]; decide),(uh G1).frozen 23⟩
 have hg:w.heap.size < w1.heap.size:=(uh G1).lt
 have CS:=hide ((uh G1).same 23 (.slice q is.length d))
 have R1:Hid (Box (w1.setCell ⟨w.heap.size,23,none⟩ (.slice q is.length d)) (w.heap.size + 2) zeroC 35):=hide ((uh R0b).other (by omega) 23 (.slice q is.length d))
 have ST:Hid (Stay w.heap.size w1 (w1.setCell ⟨w.heap.size,23,none⟩ (.slice q is.length d))):=hide (Stay.set8 _)
 have IN:=hide ((((uh HC).below (uh BX)).setL 23 q d is (ow_fresh (g:=w.heap.size) (uh HI) (uh HFr) (by have:=uh HB; omega) (by omega)) (by decide) rfl))
 have QS:Hid (∀ OK:Nat → Prop,InB OK cs → (∀ b,w.heap.size ≤ b → OK b) → InB OK (cs.setIfInBounds 23 (.slice q is.length d))):=hide (fun OK h1 h2 => h1.set (fun b o n c e hp => by cases e; exact h2 b (by have:=(uh HFr b o rfl hp).1; omega)))
 have IQ:Hid (InB (fun b => b < w.heap.size ∨ w.heap.size + 3 ≤ b) (cs.setIfInBounds 23 (.slice q is.length d))):=hide (((uh HQ).mono (fun b hb => .inl hb.2)).set (fun b o n c e hp => by cases e; exact .inr (by have:=(uh HFr b o rfl hp).1; omega)))
 have BV:Hid (Below w.heap.size w (w1.setCell ⟨w.heap.size,23,none⟩ (.slice q is.length d))):=hide (bl_tr7 (uh BX) (bl_mono7 (uh ST).1 (Nat.le_refl _)))
 go_wp2_with (first | (refine wpList_load8 rfl _ rfl rfl (uh CS) (uh IN).1 ?_) | (refine wpList_store8 rfl _ _ rfl rfl rfl (uh R1) (uh IN).1 rfl (SeIn.ones (uh IN)) ?_; intro w5 b5 s5 _; have B5:=hide b5; have S5:=hide s5; clear b5 s5))
 have BT:Hid (Below w.heap.size w w5):=hide (bl_tr7 (uh BV) (bl_mono7 (uh S5).1 (by omega)))
 rw [uh HF]
 refine bodyPost_ret (results_se1 rfl rfl (uh B5) (uh IN).1) rfl ⟨_,rfl,?_,uh BT,?_⟩
 ·exact (uh IN).holdS (OK:=fun b => b < w.heap.size ∨ w.heap.size + 3 ≤ b) (uh IQ) (Nat.le_trans (uh ST).1.size (uh S5).1.size) (fun k hk hl => ((uh S5).block (by omega) (Nat.lt_of_lt_of_le hl (uh ST).1.size)).trans ((uh ST).block (by omega) hl))
 ·exact fun OK h1 h2 => uh QS OK h1 h2
theorem rlists8_value (cs:Array Value) (D:SeD) (a:AtA) (B B':Nat) (w:World) (hc:SeV B w cs D) (hB:B ≤ w.heap.size) (h:AtIn B' w a) (ht:okT8 a.T) (hm:smallA a) (hnm:a.nm = [118,97,108,117,101]) :
  Calls Try.prog 38 #[.agg cs,.agg (atCells a).toArray] w fun e w' => ∃ c2,e = .returned (.agg c2) ∧ SeV B w' c2 (updL D (listL a.d)) ∧ Below w.heap.size w w' ∧ ∀ OK:Nat → Prop,InB OK cs → (∀ b,w.heap.size ≤ b → OK b) → InB OK c2:=by
 have HC:=hide hc
 have HQ:=hide (SeIn.inB hc)
 have hs:cs.size = 36:=hc.1
 have HB:=hide hB
 have HM:=hide hm
 have H7:=hide h.2.2.2.2.2.2.1.1
 have H8:=hide h.2.2.2.2.2.2.2.1
 have H6:=hide h.2.2.2.2.2.1.1
 have HT:=hide ht
 have HN:=hide h.1
 have w2:=h.2.2.1
 have w3:=h.2.2.2.1
 have nl:=h.2.2.2.2.2.2.2.1.ls.len
 have nf:=h.2.2.2.2.2.2.1.1.ls.len
 clear hc h hB ht hm
 obtain ⟨nm,kd,f,i,s,⟨t0,t1,t2,t3,t4⟩,A,fl,qf,cf,is,qi,ci⟩:=a
 simp only at HN HM H7 H8 H6 HT w2 w3 nl nf hnm
 have HF:Hid (updL D (listL (AtA.d ⟨nm,kd,f,i,s,(t0,t1,t2,t3,t4),A,fl,qf,cf,is,qi,ci⟩)) = updD D 31 (.t (t0,t1,t2,t3,t4))):=hide (by rw [hnm]; rfl)
 have n0:((strOfNums nm).toList == [97,120,101,115]) = false:=lit_no8 (uh HN) [97,120,101,115] rfl _ rfl (by rw [hnm]; decide)
 have n1:((strOfNums nm).toList == [112,101,114,109]) = false:=lit_no8 (uh HN) [112,101,114,109] rfl _ rfl (by rw [hnm]; decide)
 have n2:((strOfNums nm).toList == [107,101,114,110,101,108,95,115,104,97,112,101]) = false:=lit_no8 (uh HN) [107,101,114,110,101,108,95,115,104,97,112,101] rfl _ rfl (by rw [hnm]; decide)
 have n3:((strOfNums nm).toList == [115,116,114,105,100,101,115]) = false:=lit_no8 (uh HN) [115,116,114,105,100,101,115] rfl _ rfl (by rw [hnm]; decide)
 have n4:((strOfNums nm).toList == [112,97,100,115]) = false:=lit_no8 (uh HN) [112,97,100,115] rfl _ rfl (by rw [hnm]; decide)
 have n5:((strOfNums nm).toList == [100,105,108,97,116,105,111,110,115]) = false:=lit_no8 (uh HN) [100,105,108,97,116,105,111,110,115] rfl _ rfl (by rw [hnm]; decide)
 have n6:((strOfNums nm).toList == [118,97,108,117,101]) = true:=lit_yes8 (uh HN) [118,97,108,117,101] rfl _ rfl hnm
 clear hnm HM HN
 obtain ⟨L,hL⟩:∃ L,atCells ⟨nm,kd,f,i,s,(t0,t1,t2,t3,t4),A,fl,qf,cf,is,qi,ci⟩ = L:=⟨_,rfl⟩
 rw [hL]
 obtain ⟨W,hW⟩:∃ W,W = ((w.alloc (.cells cs 35)).alloc (.cells L.toArray 45)).alloc (.cells zeroC 35):=⟨_,rfl⟩
 have ZW:W.heap.size = w.heap.size + 3:=by rw [hW]; simp
 have BW:Hid (Below w.heap.size w W):=hide (by rw [hW]; exact se_below)
 have G0:Hid (Box W w.heap.size cs 35):=hide (by rw [hW]; exact se_box)
 have A0:Hid (Box W (w.heap.size + 1) L.toArray 45):=hide (by rw [hW]; exact se_boxA)
 have R0:Hid (Box W (w.heap.size + 2) zeroC 35):=hide (by rw [hW]; exact se_boxR)
 have k0:W.cell? ⟨w.heap.size + 1,0,none⟩ = some (.string (strOfNums nm)):=by rw [(uh A0).cell,← hL]; rfl
 have k5:W.cell? ⟨w.heap.size + 1,5,none⟩ = some (.int .i64 t0):=by rw [(uh A0).cell,← hL]; rfl
 have k6:W.cell? ⟨w.heap.size + 1,6,none⟩ = some (.slice A.pd t1.length A.cd):=by rw [(uh A0).cell,← hL]; rfl
 have k7:W.cell? ⟨w.heap.size + 1,7,none⟩ = some (.slice A.pf t2.length A.cf):=by rw [(uh A0).cell,← hL]; rfl
 have k8:W.cell? ⟨w.heap.size + 1,8,none⟩ = some (.slice A.pi t3.length A.ci):=by rw [(uh A0).cell,← hL]; rfl
 have k9:W.cell? ⟨w.heap.size + 1,9,none⟩ = some (.slice A.pb t4.length A.cb):=by rw [(uh A0).cell,← hL]; rfl
 have CT:=hide (rtensor8_any (t0,t1,t2,t3,t4) A W ((uh H6).below (uh BW)) (uh HT))
 unfold tenV tenCells at CT
 simp only at CT
 clear hL A0
 go_enter Try.func38,Try.ntmps38
 unfold zeroC at hW
 go_wp2_with (rw [← hW]; clear hW)
 refine (uh CT).mono ?_
 rintro e w1 ⟨⟨C,rfl,hO⟩,hb⟩
 have BB:=hide hb
 have X1:=hide hb
 have TF:=hide hO
 clear CT hb hO k0 k5 k6 k7 k8 k9
 have BX:=hide (bl_tr (uh BW) (uh BB))
 have Z1:Hid (W.heap.size ≤ w1.heap.size):=hide (uh BB).size
 have G1:=hide ((uh G0).below (uh BB))
 have R0b:=hide ((uh R0).below (uh BB))
 obtain ⟨⟨v0,c31⟩,f31⟩:(∃ v,w1.cell? ⟨w.heap.size,31,none⟩ = some v) ∧ w1.frozen? ⟨w.heap.size,31,none⟩ = false:=⟨(uh G1).some8 (by rw [hs]; decide),(uh G1).frozen 31⟩
 obtain ⟨⟨v1,c32⟩,f32⟩:(∃ v,w1.cell? ⟨w.heap.size,32,none⟩ = some v) ∧ w1.frozen? ⟨w.heap.size,32,none⟩ = false:=⟨(uh G1).some8 (by rw [hs]; decide),(uh G1).frozen 32⟩
 obtain ⟨⟨v2,c33⟩,f33⟩:(∃ v,w1.cell? ⟨w.heap.size,33,none⟩ = some v) ∧ w1.frozen? ⟨w.heap.size,33,none⟩ = false:=⟨(uh G1).some8 (by rw [hs]; decide),(uh G1).frozen 33⟩
 obtain ⟨⟨v3,c34⟩,f34⟩:(∃ v,w1.cell? ⟨w.heap.size,34,none⟩ = some v) ∧ w1.frozen? ⟨w.heap.size,34,none⟩ = false:=⟨(uh G1).some8 (by rw [hs]; decide),(uh G1).frozen 34⟩
 obtain ⟨⟨v4,c35⟩,f35⟩:(∃ v,w1.cell? ⟨w.heap.size,35,none⟩ = some v) ∧ w1.frozen? ⟨w.heap.size,35,none⟩ = false:=⟨(uh G1).some8 (by rw [hs]; decide),(uh G1).frozen 35⟩
 have hg:w.heap.size < w1.heap.size:=(uh G1).lt
 obtain ⟨V,hV⟩:∃ V,V = (((((w1.setCell ⟨w.heap.size,31,none⟩ (.int .i64 t0)).setCell ⟨w.heap.size,32,none⟩ (.slice C.pd t1.length C.cd)).setCell ⟨w.heap.size,33,none⟩ (.slice C.pf t2.length C.cf)).setCell ⟨w.heap.size,34,none⟩ (.slice C.pi t3.length C.ci)).setCell ⟨w.heap.size,35,none⟩ (.slice C.pb t4.length C.cb)):=⟨_,rfl⟩
 have CS:Hid (Box V w.heap.size (set5 cs (.int .i64 t0) (.slice C.pd t1.length C.cd) (.slice C.pf t2.length C.cf) (.slice C.pi t3.length C.ci) (.slice C.pb t4.length C.cb)) 35):=hide (by rw [hV]; exact ((((((uh G1).same 31 (.int .i64 t0)).same 32 (.slice C.pd t1.length C.cd)).same 33 (.slice C.pf t2.length C.cf)).same 34 (.slice C.pi t3.length C.ci)).same 35 (.slice C.pb t4.length C.cb)))
 have R1:Hid (Box V (w.heap.size + 2) zeroC 35):=hide (by rw [hV]; exact ((((((uh R0b).other (by omega) 31 (.int .i64 t0)).other (by omega) 32 (.slice C.pd t1.length C.cd)).other (by omega) 33 (.slice C.pf t2.length C.cf)).other (by omega) 34 (.slice C.pi t3.length C.ci)).other (by omega) 35 (.slice C.pb t4.length C.cb)))
 have ST:Hid (Stay w.heap.size w1 V):=hide (by rw [hV]; exact Stay.set5 _ _ _ _ _ _ _ _ _ _)
 have TO:Hid (TenO B w.heap.size w1 (t0,t1,t2,t3,t4) C):=hide ((uh TF).own (g:=w.heap.size) (by have:=uh HB; omega) (by omega))
 have IN:Hid (SeV B w1 (set5 cs (.int .i64 t0) (.slice C.pd t1.length C.cd) (.slice C.pf t2.length C.cf) (.slice C.pi t3.length C.ci) (.slice C.pb t4.length C.cb)) (updD D 31 (.t (t0,t1,t2,t3,t4)))):=hide (SeV.setT (T:=(t0,t1,t2,t3,t4)) (A:=C) ((uh HC).below (uh BX)) (uh TO))
 have hZ:w.heap.size + 3 ≤ W.heap.size:=by omega
 have QS:Hid (∀ OK:Nat → Prop,InB OK cs → (∀ b,w.heap.size ≤ b → OK b) → InB OK (set5 cs (.int .i64 t0) (.slice C.pd t1.length C.cd) (.slice C.pf t2.length C.cf) (.slice C.pi t3.length C.ci) (.slice C.pb t4.length C.cb))):=hide (fun OK h1 h2 => InB.set5 (h1) (fun b o n c e hp => by cases e) (fun b o n c e hp => by simp only [Value.slice.injEq] at e; obtain ⟨e1,e2,_⟩:=e; have hF:=(uh TF).2.1 b o e1 (by show 0 < t1.length; omega); exact h2 _ (by omega)) (fun b o n c e hp => by simp only [Value.slice.injEq] at e; obtain ⟨e1,e2,_⟩:=e; have hF:=(uh TF).2.2.1 b o e1 (by show 0 < t2.length; omega); exact h2 _ (by omega)) (fun b o n c e hp => by simp only [Value.slice.injEq] at e; obtain ⟨e1,e2,_⟩:=e; have hF:=(uh TF).2.2.2.1 b o e1 (by show 0 < t3.length; omega); exact h2 _ (by omega)) (fun b o n c e hp => by simp only [Value.slice.injEq] at e; obtain ⟨e1,e2,_⟩:=e; have hF:=(uh TF).2.2.2.2 b o e1 (by show 0 < t4.length; omega); exact h2 _ (by omega)))
 have IQ:Hid (InB (fun b => b < w.heap.size ∨ w.heap.size + 3 ≤ b) (set5 cs (.int .i64 t0) (.slice C.pd t1.length C.cd) (.slice C.pf t2.length C.cf) (.slice C.pi t3.length C.ci) (.slice C.pb t4.length C.cb))):=hide (InB.set5 ((uh HQ).mono (OK':=fun b => b < w.heap.size ∨ w.heap.size + 3 ≤ b) (fun b hb => .inl hb.2)) (fun b o n c e hp => by cases e) (fun b o n c e hp => by simp only [Value.slice.injEq] at e; obtain ⟨e1,e2,_⟩:=e; have hF:=(uh TF).2.1 b o e1 (by show 0 < t1.length; omega); exact .inr (by omega)) (fun b o n c e hp => by simp only [Value.slice.injEq] at e; obtain ⟨e1,e2,_⟩:=e; have hF:=(uh TF).2.2.1 b o e1 (by show 0 < t2.length; omega); exact .inr (by omega)) (fun b o n c e hp => by simp only [Value.slice.injEq] at e; obtain ⟨e1,e2,_⟩:=e; have hF:=(uh TF).2.2.2.1 b o e1 (by show 0 < t3.length; omega); exact .inr (by omega)) (fun b o n c e hp => by simp only [Value.slice.injEq] at e; obtain ⟨e1,e2,_⟩:=e; have hF:=(uh TF).2.2.2.2 b o e1 (by show 0 < t4.length; omega); exact .inr (by omega)))
 have BV:Hid (Below w.heap.size w V):=hide (bl_tr7 (uh BX) (bl_mono7 (uh ST).1 (Nat.le_refl _)))
 go_wp2_with (first | (rw [← hV]; clear hV) | (refine wpList_load8 rfl _ rfl rfl (uh CS) (uh IN).1 ?_) | (refine wpList_store8 rfl _ _ rfl rfl rfl (uh R1) (uh IN).1 rfl (SeIn.ones (uh IN)) ?_; intro w5 b5 s5 _; have B5:=hide b5; have S5:=hide s5; clear b5 s5))
 have BT:Hid (Below w.heap.size w w5):=hide (bl_tr7 (uh BV) (bl_mono7 (uh S5).1 (by omega)))
 rw [uh HF]
 refine bodyPost_ret (results_se1 rfl rfl (uh B5) (uh IN).1) rfl ⟨_,rfl,?_,uh BT,?_⟩
 ·exact (uh IN).holdS (OK:=fun b => b < w.heap.size ∨ w.heap.size + 3 ≤ b) (uh IQ) (Nat.le_trans (uh ST).1.size (uh S5).1.size) (fun k hk hl => ((uh S5).block (by omega) (Nat.lt_of_lt_of_le hl (uh ST).1.size)).trans ((uh ST).block (by omega) hl))
 ·exact fun OK h1 h2 => uh QS OK h1 h2
theorem rlists8_value_float (cs:Array Value) (D:SeD) (a:AtA) (B B':Nat) (w:World) (hc:SeV B w cs D) (hB:B ≤ w.heap.size) (h:AtIn B' w a) (ht:okT8 a.T) (hm:smallA a) (hnm:a.nm = [118,97,108,117,101,95,102,108,111,97,116]) :
  Calls Try.prog 38 #[.agg cs,.agg (atCells a).toArray] w fun e w' => ∃ c2,e = .returned (.agg c2) ∧ SeV B w' c2 (updL D (listL a.d)) ∧ Below w.heap.size w w' ∧ ∀ OK:Nat → Prop,InB OK cs → (∀ b,w.heap.size ≤ b → OK b) → InB OK c2:=by
 have HC:=hide hc
 have HQ:=hide (SeIn.inB hc)
 have hs:cs.size = 36:=hc.1
 have HB:=hide hB
 have HM:=hide hm
 have H7:=hide h.2.2.2.2.2.2.1.1
 have H8:=hide h.2.2.2.2.2.2.2.1
 have H6:=hide h.2.2.2.2.2.1.1
 have HT:=hide ht
 have HN:=hide h.1
 have w2:=h.2.2.1
 have w3:=h.2.2.2.1
 have nl:=h.2.2.2.2.2.2.2.1.ls.len
 have nf:=h.2.2.2.2.2.2.1.1.ls.len
 clear hc h hB ht hm
 obtain ⟨nm,kd,f,i,s,⟨t0,t1,t2,t3,t4⟩,A,fl,qf,cf,is,qi,ci⟩:=a
 simp only at HN HM H7 H8 H6 HT w2 w3 nl nf hnm
 have HF:Hid (updL D (listL (AtA.d ⟨nm,kd,f,i,s,(t0,t1,t2,t3,t4),A,fl,qf,cf,is,qi,ci⟩)) = updD D 31 (.t (1,[],[f],[],[]))):=hide (by rw [hnm]; rfl)
 have n0:((strOfNums nm).toList == [97,120,101,115]) = false:=lit_no8 (uh HN) [97,120,101,115] rfl _ rfl (by rw [hnm]; decide)
 have n1:((strOfNums nm).toList == [112,101,114,109]) = false:=lit_no8 (uh HN) [112,101,114,109] rfl _ rfl (by rw [hnm]; decide)
 have n2:((strOfNums nm).toList == [107,101,114,110,101,108,95,115,104,97,112,101]) = false:=lit_no8 (uh HN) [107,101,114,110,101,108,95,115,104,97,112,101] rfl _ rfl (by rw [hnm]; decide)
 have n3:((strOfNums nm).toList == [115,116,114,105,100,101,115]) = false:=lit_no8 (uh HN) [115,116,114,105,100,101,115] rfl _ rfl (by rw [hnm]; decide)
 have n4:((strOfNums nm).toList == [112,97,100,115]) = false:=lit_no8 (uh HN) [112,97,100,115] rfl _ rfl (by rw [hnm]; decide)
 have n5:((strOfNums nm).toList == [100,105,108,97,116,105,111,110,115]) = false:=lit_no8 (uh HN) [100,105,108,97,116,105,111,110,115] rfl _ rfl (by rw [hnm]; decide)
 have n6:((strOfNums nm).toList == [118,97,108,117,101]) = false:=lit_no8 (uh HN) [118,97,108,117,101] rfl _ rfl (by rw [hnm]; decide)
 have n7:((strOfNums nm).toList == [118,97,108,117,101,95,102,108,111,97,116]) = true:=lit_yes8 (uh HN) [118,97,108,117,101,95,102,108,111,97,116] rfl _ rfl hnm
 clear hnm HM HN
 obtain ⟨L,hL⟩:∃ L,atCells ⟨nm,kd,f,i,s,(t0,t1,t2,t3,t4),A,fl,qf,cf,is,qi,ci⟩ = L:=⟨_,rfl⟩
 rw [hL]
 obtain ⟨W,hW⟩:∃ W,W = ((w.alloc (.cells cs 35)).alloc (.cells L.toArray 45)).alloc (.cells zeroC 35):=⟨_,rfl⟩
 have ZW:W.heap.size = w.heap.size + 3:=by rw [hW]; simp
 have BW:Hid (Below w.heap.size w W):=hide (by rw [hW]; exact se_below)
 have G0:Hid (Box W w.heap.size cs 35):=hide (by rw [hW]; exact se_box)
 have A0:Hid (Box W (w.heap.size + 1) L.toArray 45):=hide (by rw [hW]; exact se_boxA)
 have R0:Hid (Box W (w.heap.size + 2) zeroC 35):=hide (by rw [hW]; exact se_boxR)
 have k0:W.cell? ⟨w.heap.size + 1,0,none⟩ = some (.string (strOfNums nm)):=by rw [(uh A0).cell,← hL]; rfl
 have k2:W.cell? ⟨w.heap.size + 1,2,none⟩ = some (.int .u32 f):=by rw [(uh A0).cell,← hL]; rfl
 obtain ⟨w1,hw1⟩:∃ w1,w1 = (W.alloc (.cells #[.int .u32 f] 28)):=⟨_,rfl⟩
 have BB:Hid (Below W.heap.size W w1):=hide (by rw [hw1]; exact al1p _ _)
 have OL:Hid (OwL .u32 B w.heap.size w1 (some ⟨w.heap.size + 3,0,none⟩) 1 [f]):=hide (by rw [hw1]; exact ow_one8 W f ZW (by have:=uh HB; omega) (by omega) w2)
 clear hL A0
 have BX:=hide (bl_tr (uh BW) (uh BB))
 have Z1:Hid (W.heap.size ≤ w1.heap.size):=hide (uh BB).size
 have G1:=hide ((uh G0).below (uh BB))
 have R0b:=hide ((uh R0).below (uh BB))
 obtain ⟨⟨v0,c31⟩,f31⟩:(∃ v,w1.cell? ⟨w.heap.size,31,none⟩ = some v) ∧ w1.frozen? ⟨w.heap.size,31,none⟩ = false:=⟨(uh G1).some8 (by rw [hs]; decide),(uh G1).frozen 31⟩
 obtain ⟨⟨v1,c32⟩,f32⟩:(∃ v,w1.cell? ⟨w.heap.size,32,none⟩ = some v) ∧ w1.frozen? ⟨w.heap.size,32,none⟩ = false:=⟨(uh G1).some8 (by rw [hs]; decide),(uh G1).frozen 32⟩
 obtain ⟨⟨v2,c33⟩,f33⟩:(∃ v,w1.cell? ⟨w.heap.size,33,none⟩ = some v) ∧ w1.frozen? ⟨w.heap.size,33,none⟩ = false:=⟨(uh G1).some8 (by rw [hs]; decide),(uh G1).frozen 33⟩
 obtain ⟨⟨v3,c34⟩,f34⟩:(∃ v,w1.cell? ⟨w.heap.size,34,none⟩ = some v) ∧ w1.frozen? ⟨w.heap.size,34,none⟩ = false:=⟨(uh G1).some8 (by rw [hs]; decide),(uh G1).frozen 34⟩
 obtain ⟨⟨v4,c35⟩,f35⟩:(∃ v,w1.cell? ⟨w.heap.size,35,none⟩ = some v) ∧ w1.frozen? ⟨w.heap.size,35,none⟩ = false:=⟨(uh G1).some8 (by rw [hs]; decide),(uh G1).frozen 35⟩
 have hg:w.heap.size < w1.heap.size:=(uh G1).lt
 obtain ⟨V,hV⟩:∃ V,V = (((((w1.setCell ⟨w.heap.size,31,none⟩ (.int .i64 1)).setCell ⟨w.heap.size,32,none⟩ (.slice none 0 0)).setCell ⟨w.heap.size,33,none⟩ (.slice (some ⟨w.heap.size + 3,0,none⟩) 1 1)).setCell ⟨w.heap.size,34,none⟩ (.slice none 0 0)).setCell ⟨w.heap.size,35,none⟩ (.slice none 0 0)):=⟨_,rfl⟩
 have CS:Hid (Box V w.heap.size (set5 cs (.int .i64 1) (.slice none 0 0) (.slice (some ⟨w.heap.size + 3,0,none⟩) 1 1) (.slice none 0 0) (.slice none 0 0)) 35):=hide (by rw [hV]; exact ((((((uh G1).same 31 (.int .i64 1)).same 32 (.slice none 0 0)).same 33 (.slice (some ⟨w.heap.size + 3,0,none⟩) 1 1)).same 34 (.slice none 0 0)).same 35 (.slice none 0 0)))
 have R1:Hid (Box V (w.heap.size + 2) zeroC 35):=hide (by rw [hV]; exact ((((((uh R0b).other (by omega) 31 (.int .i64 1)).other (by omega) 32 (.slice none 0 0)).other (by omega) 33 (.slice (some ⟨w.heap.size + 3,0,none⟩) 1 1)).other (by omega) 34 (.slice none 0 0)).other (by omega) 35 (.slice none 0 0)))
 have ST:Hid (Stay w.heap.size w1 V):=hide (by rw [hV]; exact Stay.set5 _ _ _ _ _ _ _ _ _ _)
 have TO:Hid (TenO B w.heap.size w1 (1,[],[f],[],[]) ⟨none,0,some ⟨w.heap.size + 3,0,none⟩,1,none,0,none,0⟩):=hide (⟨rfl,OwL.nil _ _ _ _,uh OL,OwL.nil _ _ _ _,OwB.nil _ _ _⟩)
 have IN:Hid (SeV B w1 (set5 cs (.int .i64 1) (.slice none 0 0) (.slice (some ⟨w.heap.size + 3,0,none⟩) 1 1) (.slice none 0 0) (.slice none 0 0)) (updD D 31 (.t (1,[],[f],[],[])))):=hide (SeV.setT (T:=(1,[],[f],[],[])) (A:=⟨none,0,some ⟨w.heap.size + 3,0,none⟩,1,none,0,none,0⟩) ((uh HC).below (uh BX)) (uh TO))
 have hZ:w.heap.size + 3 ≤ W.heap.size:=by omega
 have QS:Hid (∀ OK:Nat → Prop,InB OK cs → (∀ b,w.heap.size ≤ b → OK b) → InB OK (set5 cs (.int .i64 1) (.slice none 0 0) (.slice (some ⟨w.heap.size + 3,0,none⟩) 1 1) (.slice none 0 0) (.slice none 0 0))):=hide (fun OK h1 h2 => InB.set5 (h1) (fun b o n c e hp => by cases e) (fun b o n c e hp => by cases e) (fun b o n c e hp => by simp only [Value.slice.injEq,Option.some.injEq,Addr.mk.injEq] at e; obtain ⟨⟨e1,_⟩,_⟩:=e; rw [← e1]; exact h2 _ (by omega)) (fun b o n c e hp => by cases e) (fun b o n c e hp => by cases e))
 have IQ:Hid (InB (fun b => b < w.heap.size ∨ w.heap.size + 3 ≤ b) (set5 cs (.int .i64 1) (.slice none 0 0) (.slice (some ⟨w.heap.size + 3,0,none⟩) 1 1) (.slice none 0 0) (.slice none 0 0))):=hide (InB.set5 ((uh HQ).mono (OK':=fun b => b < w.heap.size ∨ w.heap.size + 3 ≤ b) (fun b hb => .inl hb.2)) (fun b o n c e hp => by cases e) (fun b o n c e hp => by cases e) (fun b o n c e hp => by simp only [Value.slice.injEq,Option.some.injEq,Addr.mk.injEq] at e; obtain ⟨⟨e1,_⟩,_⟩:=e; rw [← e1]; exact .inr (by omega)) (fun b o n c e hp => by cases e) (fun b o n c e hp => by cases e))
 have BV:Hid (Below w.heap.size w V):=hide (bl_tr7 (uh BX) (bl_mono7 (uh ST).1 (Nat.le_refl _)))
 go_enter Try.func38,Try.ntmps38
 unfold zeroC at hW
 go_wp2_with (first | (rw [← hW]; clear hW) | (rw [← hw1]; clear hw1) | (rw [← hV]; clear hV) | (refine wpList_load8 rfl _ rfl rfl (uh CS) (uh IN).1 ?_) | (refine wpList_store8 rfl _ _ rfl rfl rfl (uh R1) (uh IN).1 rfl (SeIn.ones (uh IN)) ?_; intro w5 b5 s5 _; have B5:=hide b5; have S5:=hide s5; clear b5 s5))
 have BT:Hid (Below w.heap.size w w5):=hide (bl_tr7 (uh BV) (bl_mono7 (uh S5).1 (by omega)))
 rw [uh HF]
 refine bodyPost_ret (results_se1 rfl rfl (uh B5) (uh IN).1) rfl ⟨_,rfl,?_,uh BT,?_⟩
 ·exact (uh IN).holdS (OK:=fun b => b < w.heap.size ∨ w.heap.size + 3 ≤ b) (uh IQ) (Nat.le_trans (uh ST).1.size (uh S5).1.size) (fun k hk hl => ((uh S5).block (by omega) (Nat.lt_of_lt_of_le hl (uh ST).1.size)).trans ((uh ST).block (by omega) hl))
 ·exact fun OK h1 h2 => uh QS OK h1 h2
theorem rlists8_value_int (cs:Array Value) (D:SeD) (a:AtA) (B B':Nat) (w:World) (hc:SeV B w cs D) (hB:B ≤ w.heap.size) (h:AtIn B' w a) (ht:okT8 a.T) (hm:smallA a) (hnm:a.nm = [118,97,108,117,101,95,105,110,116]) :
  Calls Try.prog 38 #[.agg cs,.agg (atCells a).toArray] w fun e w' => ∃ c2,e = .returned (.agg c2) ∧ SeV B w' c2 (updL D (listL a.d)) ∧ Below w.heap.size w w' ∧ ∀ OK:Nat → Prop,InB OK cs → (∀ b,w.heap.size ≤ b → OK b) → InB OK c2:=by
 have HC:=hide hc
 have HQ:=hide (SeIn.inB hc)
 have hs:cs.size = 36:=hc.1
 have HB:=hide hB
 have HM:=hide hm
 have H7:=hide h.2.2.2.2.2.2.1.1
 have H8:=hide h.2.2.2.2.2.2.2.1
 have H6:=hide h.2.2.2.2.2.1.1
 have HT:=hide ht
 have HN:=hide h.1
 have w2:=h.2.2.1
 have w3:=h.2.2.2.1
 have nl:=h.2.2.2.2.2.2.2.1.ls.len
 have nf:=h.2.2.2.2.2.2.1.1.ls.len
 clear hc h hB ht hm
 obtain ⟨nm,kd,f,i,s,⟨t0,t1,t2,t3,t4⟩,A,fl,qf,cf,is,qi,ci⟩:=a
 simp only at HN HM H7 H8 H6 HT w2 w3 nl nf hnm
 have HF:Hid (updL D (listL (AtA.d ⟨nm,kd,f,i,s,(t0,t1,t2,t3,t4),A,fl,qf,cf,is,qi,ci⟩)) = updD D 31 (.t (7,[],[],[i],[]))):=hide (by rw [hnm]; rfl)
 have n0:((strOfNums nm).toList == [97,120,101,115]) = false:=lit_no8 (uh HN) [97,120,101,115] rfl _ rfl (by rw [hnm]; decide)
 have n1:((strOfNums nm).toList == [112,101,114,109]) = false:=lit_no8 (uh HN) [112,101,114,109] rfl _ rfl (by rw [hnm]; decide)
 have n2:((strOfNums nm).toList == [107,101,114,110,101,108,95,115,104,97,112,101]) = false:=lit_no8 (uh HN) [107,101,114,110,101,108,95,115,104,97,112,101] rfl _ rfl (by rw [hnm]; decide)
 have n3:((strOfNums nm).toList == [115,116,114,105,100,101,115]) = false:=lit_no8 (uh HN) [115,116,114,105,100,101,115] rfl _ rfl (by rw [hnm]; decide)
 have n4:((strOfNums nm).toList == [112,97,100,115]) = false:=lit_no8 (uh HN) [112,97,100,115] rfl _ rfl (by rw [hnm]; decide)
 have n5:((strOfNums nm).toList == [100,105,108,97,116,105,111,110,115]) = false:=lit_no8 (uh HN) [100,105,108,97,116,105,111,110,115] rfl _ rfl (by rw [hnm]; decide)
 have n6:((strOfNums nm).toList == [118,97,108,117,101]) = false:=lit_no8 (uh HN) [118,97,108,117,101] rfl _ rfl (by rw [hnm]; decide)
 have n7:((strOfNums nm).toList == [118,97,108,117,101,95,102,108,111,97,116]) = false:=lit_no8 (uh HN) [118,97,108,117,101,95,102,108,111,97,116] rfl _ rfl (by rw [hnm]; decide)
 have n8:((strOfNums nm).toList == [118,97,108,117,101,95,105,110,116]) = true:=lit_yes8 (uh HN) [118,97,108,117,101,95,105,110,116] rfl _ rfl hnm
 clear hnm HM HN
 obtain ⟨L,hL⟩:∃ L,atCells ⟨nm,kd,f,i,s,(t0,t1,t2,t3,t4),A,fl,qf,cf,is,qi,ci⟩ = L:=⟨_,rfl⟩
 rw [hL]
 obtain ⟨W,hW⟩:∃ W,W = ((w.alloc (.cells cs 35)).alloc (.cells L.toArray 45)).alloc (.cells zeroC 35):=⟨_,rfl⟩
 have ZW:W.heap.size = w.heap.size + 3:=by rw [hW]; simp
 have BW:Hid (Below w.heap.size w W):=hide (by rw [hW]; exact se_below)
 have G0:Hid (Box W w.heap.size cs 35):=hide (by rw [hW]; exact se_box)
 have A0:Hid (Box W (w.heap.size + 1) L.toArray 45):=hide (by rw [hW]; exact se_boxA)
 have R0:Hid (Box W (w.heap.size + 2) zeroC 35):=hide (by rw [hW]; exact se_boxR)
 have k0:W.cell? ⟨w.heap.size + 1,0,none⟩ = some (.string (strOfNums nm)):=by rw [(uh A0).cell,← hL]; rfl
 have k3:W.cell? ⟨w.heap.size + 1,3,none⟩ = some (.int .i64 i):=by rw [(uh A0).cell,← hL]; rfl
 obtain ⟨w1,hw1⟩:∃ w1,w1 = (W.alloc (.cells #[.int .i64 i] 2)):=⟨_,rfl⟩
 have BB:Hid (Below W.heap.size W w1):=hide (by rw [hw1]; exact al1p _ _)
 have OL:Hid (OwL .i64 B w.heap.size w1 (some ⟨w.heap.size + 3,0,none⟩) 1 [i]):=hide (by rw [hw1]; exact ow_one8 W i ZW (by have:=uh HB; omega) (by omega) w3)
 clear hL A0
 have BX:=hide (bl_tr (uh BW) (uh BB))
 have Z1:Hid (W.heap.size ≤ w1.heap.size):=hide (uh BB).size
 have G1:=hide ((uh G0).below (uh BB))
 have R0b:=hide ((uh R0).below (uh BB))
 obtain ⟨⟨v0,c31⟩,f31⟩:(∃ v,w1.cell? ⟨w.heap.size,31,none⟩ = some v) ∧ w1.frozen? ⟨w.heap.size,31,none⟩ = false:=⟨(uh G1).some8 (by rw [hs]; decide),(uh G1).frozen 31⟩
 obtain ⟨⟨v1,c32⟩,f32⟩:(∃ v,w1.cell? ⟨w.heap.size,32,none⟩ = some v) ∧ w1.frozen? ⟨w.heap.size,32,none⟩ = false:=⟨(uh G1).some8 (by rw [hs]; decide),(uh G1).frozen 32⟩
 obtain ⟨⟨v2,c33⟩,f33⟩:(∃ v,w1.cell? ⟨w.heap.size,33,none⟩ = some v) ∧ w1.frozen? ⟨w.heap.size,33,none⟩ = false:=⟨(uh G1).some8 (by rw [hs]; decide),(uh G1).frozen 33⟩
 obtain ⟨⟨v3,c34⟩,f34⟩:(∃ v,w1.cell? ⟨w.heap.size,34,none⟩ = some v) ∧ w1.frozen? ⟨w.heap.size,34,none⟩ = false:=⟨(uh G1).some8 (by rw [hs]; decide),(uh G1).frozen 34⟩
 obtain ⟨⟨v4,c35⟩,f35⟩:(∃ v,w1.cell? ⟨w.heap.size,35,none⟩ = some v) ∧ w1.frozen? ⟨w.heap.size,35,none⟩ = false:=⟨(uh G1).some8 (by rw [hs]; decide),(uh G1).frozen 35⟩
 have hg:w.heap.size < w1.heap.size:=(uh G1).lt
 obtain ⟨V,hV⟩:∃ V,V = (((((w1.setCell ⟨w.heap.size,31,none⟩ (.int .i64 7)).setCell ⟨w.heap.size,32,none⟩ (.slice none 0 0)).setCell ⟨w.heap.size,33,none⟩ (.slice none 0 0)).setCell ⟨w.heap.size,34,none⟩ (.slice (some ⟨w.heap.size + 3,0,none⟩) 1 1)).setCell ⟨w.heap.size,35,none⟩ (.slice none 0 0)):=⟨_,rfl⟩
 have CS:Hid (Box V w.heap.size (set5 cs (.int .i64 7) (.slice none 0 0) (.slice none 0 0) (.slice (some ⟨w.heap.size + 3,0,none⟩) 1 1) (.slice none 0 0)) 35):=hide (by rw [hV]; exact ((((((uh G1).same 31 (.int .i64 7)).same 32 (.slice none 0 0)).same 33 (.slice none 0 0)).same 34 (.slice (some ⟨w.heap.size + 3,0,none⟩) 1 1)).same 35 (.slice none 0 0)))
 have R1:Hid (Box V (w.heap.size + 2) zeroC 35):=hide (by rw [hV]; exact ((((((uh R0b).other (by omega) 31 (.int .i64 7)).other (by omega) 32 (.slice none 0 0)).other (by omega) 33 (.slice none 0 0)).other (by omega) 34 (.slice (some ⟨w.heap.size + 3,0,none⟩) 1 1)).other (by omega) 35 (.slice none 0 0)))
 have ST:Hid (Stay w.heap.size w1 V):=hide (by rw [hV]; exact Stay.set5 _ _ _ _ _ _ _ _ _ _)
 have TO:Hid (TenO B w.heap.size w1 (7,[],[],[i],[]) ⟨none,0,none,0,some ⟨w.heap.size + 3,0,none⟩,1,none,0⟩):=hide (⟨rfl,OwL.nil _ _ _ _,OwL.nil _ _ _ _,uh OL,OwB.nil _ _ _⟩)
 have IN:Hid (SeV B w1 (set5 cs (.int .i64 7) (.slice none 0 0) (.slice none 0 0) (.slice (some ⟨w.heap.size + 3,0,none⟩) 1 1) (.slice none 0 0)) (updD D 31 (.t (7,[],[],[i],[])))):=hide (SeV.setT (T:=(7,[],[],[i],[])) (A:=⟨none,0,none,0,some ⟨w.heap.size + 3,0,none⟩,1,none,0⟩) ((uh HC).below (uh BX)) (uh TO))
 have hZ:w.heap.size + 3 ≤ W.heap.size:=by omega
 have QS:Hid (∀ OK:Nat → Prop,InB OK cs → (∀ b,w.heap.size ≤ b → OK b) → InB OK (set5 cs (.int .i64 7) (.slice none 0 0) (.slice none 0 0) (.slice (some ⟨w.heap.size + 3,0,none⟩) 1 1) (.slice none 0 0))):=hide (fun OK h1 h2 => InB.set5 (h1) (fun b o n c e hp => by cases e) (fun b o n c e hp => by cases e) (fun b o n c e hp => by cases e) (fun b o n c e hp => by simp only [Value.slice.injEq,Option.some.injEq,Addr.mk.injEq] at e; obtain ⟨⟨e1,_⟩,_⟩:=e; rw [← e1]; exact h2 _ (by omega)) (fun b o n c e hp => by cases e))
 have IQ:Hid (InB (fun b => b < w.heap.size ∨ w.heap.size + 3 ≤ b) (set5 cs (.int .i64 7) (.slice none 0 0) (.slice none 0 0) (.slice (some ⟨w.heap.size + 3,0,none⟩) 1 1) (.slice none 0 0))):=hide (InB.set5 ((uh HQ).mono (OK':=fun b => b < w.heap.size ∨ w.heap.size + 3 ≤ b) (fun b hb => .inl hb.2)) (fun b o n c e hp => by cases e) (fun b o n c e hp => by cases e) (fun b o n c e hp => by cases e) (fun b o n c e hp => by simp only [Value.slice.injEq,Option.some.injEq,Addr.mk.injEq] at e; obtain ⟨⟨e1,_⟩,_⟩:=e; rw [← e1]; exact .inr (by omega)) (fun b o n c e hp => by cases e))
 have BV:Hid (Below w.heap.size w V):=hide (bl_tr7 (uh BX) (bl_mono7 (uh ST).1 (Nat.le_refl _)))
 go_enter Try.func38,Try.ntmps38
 unfold zeroC at hW
 go_wp2_with (first | (rw [← hW]; clear hW) | (rw [← hw1]; clear hw1) | (rw [← hV]; clear hV) | (refine wpList_load8 rfl _ rfl rfl (uh CS) (uh IN).1 ?_) | (refine wpList_store8 rfl _ _ rfl rfl rfl (uh R1) (uh IN).1 rfl (SeIn.ones (uh IN)) ?_; intro w5 b5 s5 _; have B5:=hide b5; have S5:=hide s5; clear b5 s5))
 have BT:Hid (Below w.heap.size w w5):=hide (bl_tr7 (uh BV) (bl_mono7 (uh S5).1 (by omega)))
 rw [uh HF]
 refine bodyPost_ret (results_se1 rfl rfl (uh B5) (uh IN).1) rfl ⟨_,rfl,?_,uh BT,?_⟩
 ·exact (uh IN).holdS (OK:=fun b => b < w.heap.size ∨ w.heap.size + 3 ≤ b) (uh IQ) (Nat.le_trans (uh ST).1.size (uh S5).1.size) (fun k hk hl => ((uh S5).block (by omega) (Nat.lt_of_lt_of_le hl (uh ST).1.size)).trans ((uh ST).block (by omega) hl))
 ·exact fun OK h1 h2 => uh QS OK h1 h2
theorem rlists8_value_floats (cs:Array Value) (D:SeD) (a:AtA) (B B':Nat) (w:World) (hc:SeV B w cs D) (hB:B ≤ w.heap.size) (h:AtIn B' w a) (ht:okT8 a.T) (hm:smallA a) (hnm:a.nm = [118,97,108,117,101,95,102,108,111,97,116,115]) :
  Calls Try.prog 38 #[.agg cs,.agg (atCells a).toArray] w fun e w' => ∃ c2,e = .returned (.agg c2) ∧ SeV B w' c2 (updL D (listL a.d)) ∧ Below w.heap.size w w' ∧ ∀ OK:Nat → Prop,InB OK cs → (∀ b,w.heap.size ≤ b → OK b) → InB OK c2:=by
 have HC:=hide hc
 have HQ:=hide (SeIn.inB hc)
 have hs:cs.size = 36:=hc.1
 have HB:=hide hB
 have HM:=hide hm
 have H7:=hide h.2.2.2.2.2.2.1.1
 have H8:=hide h.2.2.2.2.2.2.2.1
 have H6:=hide h.2.2.2.2.2.1.1
 have HT:=hide ht
 have HN:=hide h.1
 have w2:=h.2.2.1
 have w3:=h.2.2.2.1
 have nl:=h.2.2.2.2.2.2.2.1.ls.len
 have nf:=h.2.2.2.2.2.2.1.1.ls.len
 clear hc h hB ht hm
 obtain ⟨nm,kd,f,i,s,⟨t0,t1,t2,t3,t4⟩,A,fl,qf,cf,is,qi,ci⟩:=a
 simp only at HN HM H7 H8 H6 HT w2 w3 nl nf hnm
 have HF:Hid (updL D (listL (AtA.d ⟨nm,kd,f,i,s,(t0,t1,t2,t3,t4),A,fl,qf,cf,is,qi,ci⟩)) = updD D 31 (.t (1,[(fl.length:Int)],fl,[],[]))):=hide (by rw [hnm]; rfl)
 have HL:fl.length ≤ 4096:=(uh HM).2 hnm
 have n0:((strOfNums nm).toList == [97,120,101,115]) = false:=lit_no8 (uh HN) [97,120,101,115] rfl _ rfl (by rw [hnm]; decide)
 have n1:((strOfNums nm).toList == [112,101,114,109]) = false:=lit_no8 (uh HN) [112,101,114,109] rfl _ rfl (by rw [hnm]; decide)
 have n2:((strOfNums nm).toList == [107,101,114,110,101,108,95,115,104,97,112,101]) = false:=lit_no8 (uh HN) [107,101,114,110,101,108,95,115,104,97,112,101] rfl _ rfl (by rw [hnm]; decide)
 have n3:((strOfNums nm).toList == [115,116,114,105,100,101,115]) = false:=lit_no8 (uh HN) [115,116,114,105,100,101,115] rfl _ rfl (by rw [hnm]; decide)
 have n4:((strOfNums nm).toList == [112,97,100,115]) = false:=lit_no8 (uh HN) [112,97,100,115] rfl _ rfl (by rw [hnm]; decide)
 have n5:((strOfNums nm).toList == [100,105,108,97,116,105,111,110,115]) = false:=lit_no8 (uh HN) [100,105,108,97,116,105,111,110,115] rfl _ rfl (by rw [hnm]; decide)
 have n6:((strOfNums nm).toList == [118,97,108,117,101]) = false:=lit_no8 (uh HN) [118,97,108,117,101] rfl _ rfl (by rw [hnm]; decide)
 have n7:((strOfNums nm).toList == [118,97,108,117,101,95,102,108,111,97,116]) = false:=lit_no8 (uh HN) [118,97,108,117,101,95,102,108,111,97,116] rfl _ rfl (by rw [hnm]; decide)
 have n8:((strOfNums nm).toList == [118,97,108,117,101,95,105,110,116]) = false:=lit_no8 (uh HN) [118,97,108,117,101,95,105,110,116] rfl _ rfl (by rw [hnm]; decide)
 have n9:((strOfNums nm).toList == [118,97,108,117,101,95,102,108,111,97,116,115]) = true:=lit_yes8 (uh HN) [118,97,108,117,101,95,102,108,111,97,116,115] rfl _ rfl hnm
 clear hnm HM HN
 obtain ⟨L,hL⟩:∃ L,atCells ⟨nm,kd,f,i,s,(t0,t1,t2,t3,t4),A,fl,qf,cf,is,qi,ci⟩ = L:=⟨_,rfl⟩
 rw [hL]
 obtain ⟨W,hW⟩:∃ W,W = ((w.alloc (.cells cs 35)).alloc (.cells L.toArray 45)).alloc (.cells zeroC 35):=⟨_,rfl⟩
 have ZW:W.heap.size = w.heap.size + 3:=by rw [hW]; simp
 have BW:Hid (Below w.heap.size w W):=hide (by rw [hW]; exact se_below)
 have G0:Hid (Box W w.heap.size cs 35):=hide (by rw [hW]; exact se_box)
 have A0:Hid (Box W (w.heap.size + 1) L.toArray 45):=hide (by rw [hW]; exact se_boxA)
 have R0:Hid (Box W (w.heap.size + 2) zeroC 35):=hide (by rw [hW]; exact se_boxR)
 have k0:W.cell? ⟨w.heap.size + 1,0,none⟩ = some (.string (strOfNums nm)):=by rw [(uh A0).cell,← hL]; rfl
 have k10:W.cell? ⟨w.heap.size + 1,10,none⟩ = some (.slice qf fl.length cf):=by rw [(uh A0).cell,← hL]; rfl
 obtain ⟨w0,hw0⟩:∃ w0,w0 = W.alloc (.cells #[.int .i64 (fl.length:Int)] 3):=⟨_,rfl⟩
 have B0:Hid (Below W.heap.size W w0):=hide (by rw [hw0]; exact al1p _ _)
 have Z0:w0.heap.size = W.heap.size + 1:=by rw [hw0]; simp
 have wl:(Lit.int .i64 (fl.length:Int)).wf = true:=by simp [Lit.wf,IntKind.min,IntKind.max,IntKind.signed,IntKind.bits]; omega
 have O1:Ints .i64 w0 (some ⟨w.heap.size + 3,0,none⟩) 1 [(fl.length:Int)]:=by
  rw [hw0]
  exact (ow_one8 (B:=0) (g:=w.heap.size) (t:=3) W (fl.length:Int) ZW (Nat.zero_le _) (by omega) wl).1
 have HX:=(uh H7).below (bl_tr (uh BW) (uh B0))
 have CT:=hide (rtensor8_any (1,[(fl.length:Int)],fl,[],[]) ⟨some ⟨w.heap.size + 3,0,none⟩,1,qf,cf,none,0,none,0⟩ w0 ⟨rfl,O1,HX,nilInts _ _,Ls.nil _⟩ ⟨by simp,by simp <;> omega,by simp <;> omega,by simp⟩)
 unfold tenV tenCells at CT
 simp only [List.length_cons,List.length_nil,Nat.zero_add] at CT
 clear hL A0 O1 HX
 go_enter Try.func38,Try.ntmps38
 unfold zeroC at hW
 go_wp2_with (rw [← hW]; clear hW)
 rw [← hw0]
 clear hw0
 refine (uh CT).mono ?_
 rintro e w1 ⟨⟨C,rfl,hO⟩,hb⟩
 have BB:=hide (bl_tr (uh B0) hb)
 have TF:=hide hO
 clear CT hb hO k0 k10
 have BX:=hide (bl_tr (uh BW) (uh BB))
 have Z1:Hid (W.heap.size ≤ w1.heap.size):=hide (uh BB).size
 have G1:=hide ((uh G0).below (uh BB))
 have R0b:=hide ((uh R0).below (uh BB))
 obtain ⟨⟨v0,c31⟩,f31⟩:(∃ v,w1.cell? ⟨w.heap.size,31,none⟩ = some v) ∧ w1.frozen? ⟨w.heap.size,31,none⟩ = false:=⟨(uh G1).some8 (by rw [hs]; decide),(uh G1).frozen 31⟩
 obtain ⟨⟨v1,c32⟩,f32⟩:(∃ v,w1.cell? ⟨w.heap.size,32,none⟩ = some v) ∧ w1.frozen? ⟨w.heap.size,32,none⟩ = false:=⟨(uh G1).some8 (by rw [hs]; decide),(uh G1).frozen 32⟩
 obtain ⟨⟨v2,c33⟩,f33⟩:(∃ v,w1.cell? ⟨w.heap.size,33,none⟩ = some v) ∧ w1.frozen? ⟨w.heap.size,33,none⟩ = false:=⟨(uh G1).some8 (by rw [hs]; decide),(uh G1).frozen 33⟩
 obtain ⟨⟨v3,c34⟩,f34⟩:(∃ v,w1.cell? ⟨w.heap.size,34,none⟩ = some v) ∧ w1.frozen? ⟨w.heap.size,34,none⟩ = false:=⟨(uh G1).some8 (by rw [hs]; decide),(uh G1).frozen 34⟩
 obtain ⟨⟨v4,c35⟩,f35⟩:(∃ v,w1.cell? ⟨w.heap.size,35,none⟩ = some v) ∧ w1.frozen? ⟨w.heap.size,35,none⟩ = false:=⟨(uh G1).some8 (by rw [hs]; decide),(uh G1).frozen 35⟩
 have hg:w.heap.size < w1.heap.size:=(uh G1).lt
 obtain ⟨V,hV⟩:∃ V,V = (((((w1.setCell ⟨w.heap.size,31,none⟩ (.int .i64 1)).setCell ⟨w.heap.size,32,none⟩ (.slice C.pd 1 C.cd)).setCell ⟨w.heap.size,33,none⟩ (.slice C.pf fl.length C.cf)).setCell ⟨w.heap.size,34,none⟩ (.slice C.pi 0 C.ci)).setCell ⟨w.heap.size,35,none⟩ (.slice C.pb 0 C.cb)):=⟨_,rfl⟩
 have CS:Hid (Box V w.heap.size (set5 cs (.int .i64 1) (.slice C.pd 1 C.cd) (.slice C.pf fl.length C.cf) (.slice C.pi 0 C.ci) (.slice C.pb 0 C.cb)) 35):=hide (by rw [hV]; exact ((((((uh G1).same 31 (.int .i64 1)).same 32 (.slice C.pd 1 C.cd)).same 33 (.slice C.pf fl.length C.cf)).same 34 (.slice C.pi 0 C.ci)).same 35 (.slice C.pb 0 C.cb)))
 have R1:Hid (Box V (w.heap.size + 2) zeroC 35):=hide (by rw [hV]; exact ((((((uh R0b).other (by omega) 31 (.int .i64 1)).other (by omega) 32 (.slice C.pd 1 C.cd)).other (by omega) 33 (.slice C.pf fl.length C.cf)).other (by omega) 34 (.slice C.pi 0 C.ci)).other (by omega) 35 (.slice C.pb 0 C.cb)))
 have ST:Hid (Stay w.heap.size w1 V):=hide (by rw [hV]; exact Stay.set5 _ _ _ _ _ _ _ _ _ _)
 have TO:Hid (TenO B w.heap.size w1 (1,[(fl.length:Int)],fl,[],[]) C):=hide ((uh TF).own (g:=w.heap.size) (by have:=uh HB; omega) (by omega))
 have IN:Hid (SeV B w1 (set5 cs (.int .i64 1) (.slice C.pd 1 C.cd) (.slice C.pf fl.length C.cf) (.slice C.pi 0 C.ci) (.slice C.pb 0 C.cb)) (updD D 31 (.t (1,[(fl.length:Int)],fl,[],[])))):=hide (SeV.setT (T:=(1,[(fl.length:Int)],fl,[],[])) (A:=C) ((uh HC).below (uh BX)) (uh TO))
 have hZ:w.heap.size + 3 ≤ W.heap.size:=by omega
 have QS:Hid (∀ OK:Nat → Prop,InB OK cs → (∀ b,w.heap.size ≤ b → OK b) → InB OK (set5 cs (.int .i64 1) (.slice C.pd 1 C.cd) (.slice C.pf fl.length C.cf) (.slice C.pi 0 C.ci) (.slice C.pb 0 C.cb))):=hide (fun OK h1 h2 => InB.set5 (h1) (fun b o n c e hp => by cases e) (fun b o n c e hp => by simp only [Value.slice.injEq] at e; obtain ⟨e1,e2,_⟩:=e; have hF:=(uh TF).2.1 b o e1 (by show 0 < 1; omega); exact h2 _ (by omega)) (fun b o n c e hp => by simp only [Value.slice.injEq] at e; obtain ⟨e1,e2,_⟩:=e; have hF:=(uh TF).2.2.1 b o e1 (by show 0 < fl.length; omega); exact h2 _ (by omega)) (fun b o n c e hp => by simp only [Value.slice.injEq] at e; obtain ⟨e1,e2,_⟩:=e; have hF:=(uh TF).2.2.2.1 b o e1 (by show 0 < 0; omega); exact h2 _ (by omega)) (fun b o n c e hp => by simp only [Value.slice.injEq] at e; obtain ⟨e1,e2,_⟩:=e; have hF:=(uh TF).2.2.2.2 b o e1 (by show 0 < 0; omega); exact h2 _ (by omega)))
 have IQ:Hid (InB (fun b => b < w.heap.size ∨ w.heap.size + 3 ≤ b) (set5 cs (.int .i64 1) (.slice C.pd 1 C.cd) (.slice C.pf fl.length C.cf) (.slice C.pi 0 C.ci) (.slice C.pb 0 C.cb))):=hide (InB.set5 ((uh HQ).mono (OK':=fun b => b < w.heap.size ∨ w.heap.size + 3 ≤ b) (fun b hb => .inl hb.2)) (fun b o n c e hp => by cases e) (fun b o n c e hp => by simp only [Value.slice.injEq] at e; obtain ⟨e1,e2,_⟩:=e; have hF:=(uh TF).2.1 b o e1 (by show 0 < 1; omega); exact .inr (by omega)) (fun b o n c e hp => by simp only [Value.slice.injEq] at e; obtain ⟨e1,e2,_⟩:=e; have hF:=(uh TF).2.2.1 b o e1 (by show 0 < fl.length; omega); exact .inr (by omega)) (fun b o n c e hp => by simp only [Value.slice.injEq] at e; obtain ⟨e1,e2,_⟩:=e; have hF:=(uh TF).2.2.2.1 b o e1 (by show 0 < 0; omega); exact .inr (by omega)) (fun b o n c e hp => by simp only [Value.slice.injEq] at e; obtain ⟨e1,e2,_⟩:=e; have hF:=(uh TF).2.2.2.2 b o e1 (by show 0 < 0; omega); exact .inr (by omega)))
 have BV:Hid (Below w.heap.size w V):=hide (bl_tr7 (uh BX) (bl_mono7 (uh ST).1 (Nat.le_refl _)))
 go_wp2_with (first | (rw [← hV]; clear hV) | (refine wpList_load8 rfl _ rfl rfl (uh CS) (uh IN).1 ?_) | (refine wpList_store8 rfl _ _ rfl rfl rfl (uh R1) (uh IN).1 rfl (SeIn.ones (uh IN)) ?_; intro w5 b5 s5 _; have B5:=hide b5; have S5:=hide s5; clear b5 s5))
 have BT:Hid (Below w.heap.size w w5):=hide (bl_tr7 (uh BV) (bl_mono7 (uh S5).1 (by omega)))
 rw [uh HF]
 refine bodyPost_ret (results_se1 rfl rfl (uh B5) (uh IN).1) rfl ⟨_,rfl,?_,uh BT,?_⟩
 ·exact (uh IN).holdS (OK:=fun b => b < w.heap.size ∨ w.heap.size + 3 ≤ b) (uh IQ) (Nat.le_trans (uh ST).1.size (uh S5).1.size) (fun k hk hl => ((uh S5).block (by omega) (Nat.lt_of_lt_of_le hl (uh ST).1.size)).trans ((uh ST).block (by omega) hl))
 ·exact fun OK h1 h2 => uh QS OK h1 h2
theorem rlists8_value_ints (cs:Array Value) (D:SeD) (a:AtA) (B B':Nat) (w:World) (hc:SeV B w cs D) (hB:B ≤ w.heap.size) (h:AtIn B' w a) (ht:okT8 a.T) (hm:smallA a) (hnm:a.nm = [118,97,108,117,101,95,105,110,116,115]) :
  Calls Try.prog 38 #[.agg cs,.agg (atCells a).toArray] w fun e w' => ∃ c2,e = .returned (.agg c2) ∧ SeV B w' c2 (updL D (listL a.d)) ∧ Below w.heap.size w w' ∧ ∀ OK:Nat → Prop,InB OK cs → (∀ b,w.heap.size ≤ b → OK b) → InB OK c2:=by
 have HC:=hide hc
 have HQ:=hide (SeIn.inB hc)
 have hs:cs.size = 36:=hc.1
 have HB:=hide hB
 have HM:=hide hm
 have H7:=hide h.2.2.2.2.2.2.1.1
 have H8:=hide h.2.2.2.2.2.2.2.1
 have H6:=hide h.2.2.2.2.2.1.1
 have HT:=hide ht
 have HN:=hide h.1
 have w2:=h.2.2.1
 have w3:=h.2.2.2.1
 have nl:=h.2.2.2.2.2.2.2.1.ls.len
 have nf:=h.2.2.2.2.2.2.1.1.ls.len
 clear hc h hB ht hm
 obtain ⟨nm,kd,f,i,s,⟨t0,t1,t2,t3,t4⟩,A,fl,qf,cf,is,qi,ci⟩:=a
 simp only at HN HM H7 H8 H6 HT w2 w3 nl nf hnm
 have HF:Hid (updL D (listL (AtA.d ⟨nm,kd,f,i,s,(t0,t1,t2,t3,t4),A,fl,qf,cf,is,qi,ci⟩)) = updD D 31 (.t (7,[(is.length:Int)],[],is,[]))):=hide (by rw [hnm]; rfl)
 have HL:is.length ≤ 4096:=(uh HM).1 (by rw [hnm]; simp [intsN])
 have n0:((strOfNums nm).toList == [97,120,101,115]) = false:=lit_no8 (uh HN) [97,120,101,115] rfl _ rfl (by rw [hnm]; decide)
 have n1:((strOfNums nm).toList == [112,101,114,109]) = false:=lit_no8 (uh HN) [112,101,114,109] rfl _ rfl (by rw [hnm]; decide)
 have n2:((strOfNums nm).toList == [107,101,114,110,101,108,95,115,104,97,112,101]) = false:=lit_no8 (uh HN) [107,101,114,110,101,108,95,115,104,97,112,101] rfl _ rfl (by rw [hnm]; decide)
 have n3:((strOfNums nm).toList == [115,116,114,105,100,101,115]) = false:=lit_no8 (uh HN) [115,116,114,105,100,101,115] rfl _ rfl (by rw [hnm]; decide)
 have n4:((strOfNums nm).toList == [112,97,100,115]) = false:=lit_no8 (uh HN) [112,97,100,115] rfl _ rfl (by rw [hnm]; decide)
 have n5:((strOfNums nm).toList == [100,105,108,97,116,105,111,110,115]) = false:=lit_no8 (uh HN) [100,105,108,97,116,105,111,110,115] rfl _ rfl (by rw [hnm]; decide)
 have n6:((strOfNums nm).toList == [118,97,108,117,101]) = false:=lit_no8 (uh HN) [118,97,108,117,101] rfl _ rfl (by rw [hnm]; decide)
 have n7:((strOfNums nm).toList == [118,97,108,117,101,95,102,108,111,97,116]) = false:=lit_no8 (uh HN) [118,97,108,117,101,95,102,108,111,97,116] rfl _ rfl (by rw [hnm]; decide)
 have n8:((strOfNums nm).toList == [118,97,108,117,101,95,105,110,116]) = false:=lit_no8 (uh HN) [118,97,108,117,101,95,105,110,116] rfl _ rfl (by rw [hnm]; decide)
 have n9:((strOfNums nm).toList == [118,97,108,117,101,95,102,108,111,97,116,115]) = false:=lit_no8 (uh HN) [118,97,108,117,101,95,102,108,111,97,116,115] rfl _ rfl (by rw [hnm]; decide)
 have n10:((strOfNums nm).toList == [118,97,108,117,101,95,105,110,116,115]) = true:=lit_yes8 (uh HN) [118,97,108,117,101,95,105,110,116,115] rfl _ rfl hnm
 clear hnm HM HN
 obtain ⟨L,hL⟩:∃ L,atCells ⟨nm,kd,f,i,s,(t0,t1,t2,t3,t4),A,fl,qf,cf,is,qi,ci⟩ = L:=⟨_,rfl⟩
 rw [hL]
 obtain ⟨W,hW⟩:∃ W,W = ((w.alloc (.cells cs 35)).alloc (.cells L.toArray 45)).alloc (.cells zeroC 35):=⟨_,rfl⟩
 have ZW:W.heap.size = w.heap.size + 3:=by rw [hW]; simp
 have BW:Hid (Below w.heap.size w W):=hide (by rw [hW]; exact se_below)
 have G0:Hid (Box W w.heap.size cs 35):=hide (by rw [hW]; exact se_box)
 have A0:Hid (Box W (w.heap.size + 1) L.toArray 45):=hide (by rw [hW]; exact se_boxA)
 have R0:Hid (Box W (w.heap.size + 2) zeroC 35):=hide (by rw [hW]; exact se_boxR)
 have k0:W.cell? ⟨w.heap.size + 1,0,none⟩ = some (.string (strOfNums nm)):=by rw [(uh A0).cell,← hL]; rfl
 have k11:W.cell? ⟨w.heap.size + 1,11,none⟩ = some (.slice qi is.length ci):=by rw [(uh A0).cell,← hL]; rfl
 obtain ⟨w0,hw0⟩:∃ w0,w0 = W.alloc (.cells #[.int .i64 (is.length:Int)] 3):=⟨_,rfl⟩
 have B0:Hid (Below W.heap.size W w0):=hide (by rw [hw0]; exact al1p _ _)
 have Z0:w0.heap.size = W.heap.size + 1:=by rw [hw0]; simp
 have wl:(Lit.int .i64 (is.length:Int)).wf = true:=by simp [Lit.wf,IntKind.min,IntKind.max,IntKind.signed,IntKind.bits]; omega
 have O1:Ints .i64 w0 (some ⟨w.heap.size + 3,0,none⟩) 1 [(is.length:Int)]:=by
  rw [hw0]
  exact (ow_one8 (B:=0) (g:=w.heap.size) (t:=3) W (is.length:Int) ZW (Nat.zero_le _) (by omega) wl).1
 have HX:=(uh H8).below (bl_tr (uh BW) (uh B0))
 have CT:=hide (rtensor8_any (7,[(is.length:Int)],[],is,[]) ⟨some ⟨w.heap.size + 3,0,none⟩,1,none,0,qi,ci,none,0⟩ w0 ⟨rfl,O1,nilInts _ _,HX,Ls.nil _⟩ ⟨by simp,by simp <;> omega,by simp <;> omega,by simp⟩)
 unfold tenV tenCells at CT
 simp only [List.length_cons,List.length_nil,Nat.zero_add] at CT
 clear hL A0 O1 HX
 go_enter Try.func38,Try.ntmps38
 unfold zeroC at hW
 go_wp2_with (rw [← hW]; clear hW)
 rw [← hw0]
 clear hw0
 refine (uh CT).mono ?_
 rintro e w1 ⟨⟨C,rfl,hO⟩,hb⟩
 have BB:=hide (bl_tr (uh B0) hb)
 have TF:=hide hO
 clear CT hb hO k0 k11
 have BX:=hide (bl_tr (uh BW) (uh BB))
 have Z1:Hid (W.heap.size ≤ w1.heap.size):=hide (uh BB).size
 have G1:=hide ((uh G0).below (uh BB))
 have R0b:=hide ((uh R0).below (uh BB))
 obtain ⟨⟨v0,c31⟩,f31⟩:(∃ v,w1.cell? ⟨w.heap.size,31,none⟩ = some v) ∧ w1.frozen? ⟨w.heap.size,31,none⟩ = false:=⟨(uh G1).some8 (by rw [hs]; decide),(uh G1).frozen 31⟩
 obtain ⟨⟨v1,c32⟩,f32⟩:(∃ v,w1.cell? ⟨w.heap.size,32,none⟩ = some v) ∧ w1.frozen? ⟨w.heap.size,32,none⟩ = false:=⟨(uh G1).some8 (by rw [hs]; decide),(uh G1).frozen 32⟩
 obtain ⟨⟨v2,c33⟩,f33⟩:(∃ v,w1.cell? ⟨w.heap.size,33,none⟩ = some v) ∧ w1.frozen? ⟨w.heap.size,33,none⟩ = false:=⟨(uh G1).some8 (by rw [hs]; decide),(uh G1).frozen 33⟩
 obtain ⟨⟨v3,c34⟩,f34⟩:(∃ v,w1.cell? ⟨w.heap.size,34,none⟩ = some v) ∧ w1.frozen? ⟨w.heap.size,34,none⟩ = false:=⟨(uh G1).some8 (by rw [hs]; decide),(uh G1).frozen 34⟩
 obtain ⟨⟨v4,c35⟩,f35⟩:(∃ v,w1.cell? ⟨w.heap.size,35,none⟩ = some v) ∧ w1.frozen? ⟨w.heap.size,35,none⟩ = false:=⟨(uh G1).some8 (by rw [hs]; decide),(uh G1).frozen 35⟩
 have hg:w.heap.size < w1.heap.size:=(uh G1).lt
 obtain ⟨V,hV⟩:∃ V,V = (((((w1.setCell ⟨w.heap.size,31,none⟩ (.int .i64 7)).setCell ⟨w.heap.size,32,none⟩ (.slice C.pd 1 C.cd)).setCell ⟨w.heap.size,33,none⟩ (.slice C.pf 0 C.cf)).setCell ⟨w.heap.size,34,none⟩ (.slice C.pi is.length C.ci)).setCell ⟨w.heap.size,35,none⟩ (.slice C.pb 0 C.cb)):=⟨_,rfl⟩
 have CS:Hid (Box V w.heap.size (set5 cs (.int .i64 7) (.slice C.pd 1 C.cd) (.slice C.pf 0 C.cf) (.slice C.pi is.length C.ci) (.slice C.pb 0 C.cb)) 35):=hide (by rw [hV]; exact ((((((uh G1).same 31 (.int .i64 7)).same 32 (.slice C.pd 1 C.cd)).same 33 (.slice C.pf 0 C.cf)).same 34 (.slice C.pi is.length C.ci)).same 35 (.slice C.pb 0 C.cb)))
 have R1:Hid (Box V (w.heap.size + 2) zeroC 35):=hide (by rw [hV]; exact ((((((uh R0b).other (by omega) 31 (.int .i64 7)).other (by omega) 32 (.slice C.pd 1 C.cd)).other (by omega) 33 (.slice C.pf 0 C.cf)).other (by omega) 34 (.slice C.pi is.length C.ci)).other (by omega) 35 (.slice C.pb 0 C.cb)))
 have ST:Hid (Stay w.heap.size w1 V):=hide (by rw [hV]; exact Stay.set5 _ _ _ _ _ _ _ _ _ _)
 have TO:Hid (TenO B w.heap.size w1 (7,[(is.length:Int)],[],is,[]) C):=hide ((uh TF).own (g:=w.heap.size) (by have:=uh HB; omega) (by omega))
 have IN:Hid (SeV B w1 (set5 cs (.int .i64 7) (.slice C.pd 1 C.cd) (.slice C.pf 0 C.cf) (.slice C.pi is.length C.ci) (.slice C.pb 0 C.cb)) (updD D 31 (.t (7,[(is.length:Int)],[],is,[])))):=hide (SeV.setT (T:=(7,[(is.length:Int)],[],is,[])) (A:=C) ((uh HC).below (uh BX)) (uh TO))
 have hZ:w.heap.size + 3 ≤ W.heap.size:=by omega
 have QS:Hid (∀ OK:Nat → Prop,InB OK cs → (∀ b,w.heap.size ≤ b → OK b) → InB OK (set5 cs (.int .i64 7) (.slice C.pd 1 C.cd) (.slice C.pf 0 C.cf) (.slice C.pi is.length C.ci) (.slice C.pb 0 C.cb))):=hide (fun OK h1 h2 => InB.set5 (h1) (fun b o n c e hp => by cases e) (fun b o n c e hp => by simp only [Value.slice.injEq] at e; obtain ⟨e1,e2,_⟩:=e; have hF:=(uh TF).2.1 b o e1 (by show 0 < 1; omega); exact h2 _ (by omega)) (fun b o n c e hp => by simp only [Value.slice.injEq] at e; obtain ⟨e1,e2,_⟩:=e; have hF:=(uh TF).2.2.1 b o e1 (by show 0 < 0; omega); exact h2 _ (by omega)) (fun b o n c e hp => by simp only [Value.slice.injEq] at e; obtain ⟨e1,e2,_⟩:=e; have hF:=(uh TF).2.2.2.1 b o e1 (by show 0 < is.length; omega); exact h2 _ (by omega)) (fun b o n c e hp => by simp only [Value.slice.injEq] at e; obtain ⟨e1,e2,_⟩:=e; have hF:=(uh TF).2.2.2.2 b o e1 (by show 0 < 0; omega); exact h2 _ (by omega)))
 have IQ:Hid (InB (fun b => b < w.heap.size ∨ w.heap.size + 3 ≤ b) (set5 cs (.int .i64 7) (.slice C.pd 1 C.cd) (.slice C.pf 0 C.cf) (.slice C.pi is.length C.ci) (.slice C.pb 0 C.cb))):=hide (InB.set5 ((uh HQ).mono (OK':=fun b => b < w.heap.size ∨ w.heap.size + 3 ≤ b) (fun b hb => .inl hb.2)) (fun b o n c e hp => by cases e) (fun b o n c e hp => by simp only [Value.slice.injEq] at e; obtain ⟨e1,e2,_⟩:=e; have hF:=(uh TF).2.1 b o e1 (by show 0 < 1; omega); exact .inr (by omega)) (fun b o n c e hp => by simp only [Value.slice.injEq] at e; obtain ⟨e1,e2,_⟩:=e; have hF:=(uh TF).2.2.1 b o e1 (by show 0 < 0; omega); exact .inr (by omega)) (fun b o n c e hp => by simp only [Value.slice.injEq] at e; obtain ⟨e1,e2,_⟩:=e; have hF:=(uh TF).2.2.2.1 b o e1 (by show 0 < is.length; omega); exact .inr (by omega)) (fun b o n c e hp => by simp only [Value.slice.injEq] at e; obtain ⟨e1,e2,_⟩:=e; have hF:=(uh TF).2.2.2.2 b o e1 (by show 0 < 0; omega); exact .inr (by omega)))
 have BV:Hid (Below w.heap.size w V):=hide (bl_tr7 (uh BX) (bl_mono7 (uh ST).1 (Nat.le_refl _)))
 go_wp2_with (first | (rw [← hV]; clear hV) | (refine wpList_load8 rfl _ rfl rfl (uh CS) (uh IN).1 ?_) | (refine wpList_store8 rfl _ _ rfl rfl rfl (uh R1) (uh IN).1 rfl (SeIn.ones (uh IN)) ?_; intro w5 b5 s5 _; have B5:=hide b5; have S5:=hide s5; clear b5 s5))
 have BT:Hid (Below w.heap.size w w5):=hide (bl_tr7 (uh BV) (bl_mono7 (uh S5).1 (by omega)))
 rw [uh HF]
 refine bodyPost_ret (results_se1 rfl rfl (uh B5) (uh IN).1) rfl ⟨_,rfl,?_,uh BT,?_⟩
 ·exact (uh IN).holdS (OK:=fun b => b < w.heap.size ∨ w.heap.size + 3 ≤ b) (uh IQ) (Nat.le_trans (uh ST).1.size (uh S5).1.size) (fun k hk hl => ((uh S5).block (by omega) (Nat.lt_of_lt_of_le hl (uh ST).1.size)).trans ((uh ST).block (by omega) hl))
 ·exact fun OK h1 h2 => uh QS OK h1 h2
theorem rlists8_no (cs:Array Value) (D:SeD) (a:AtA) (B B':Nat) (w:World) (hc:SeV B w cs D) (hB:B ≤ w.heap.size) (h:AtIn B' w a) (ht:okT8 a.T) (hm:smallA a) (hnm:¬ a.nm = [97,120,101,115] ∧ ¬ a.nm = [112,101,114,109] ∧ ¬ a.nm = [107,101,114,110,101,108,95,115,104,97,112,101] ∧ ¬ a.nm = [115,116,114,105,100,101,115] ∧ ¬ a.nm = [112,97,100,115] ∧ ¬ a.nm = [100,105,108,97,116,105,111,110,115] ∧ ¬ a.nm = [118,97,108,117,101] ∧ ¬ a.nm = [118,97,108,117,101,95,102,108,111,97,116] ∧ ¬ a.nm = [118,97,108,117,101,95,105,110,116] ∧ ¬ a.nm = [118,97,108,117,101,95,102,108,111,97,116,115] ∧ ¬ a.nm = [118,97,108,117,101,95,105,110,116,115]) :
  Calls Try.prog 38 #[.agg cs,.agg (atCells a).toArray] w fun e w' => ∃ c2,e = .returned (.agg c2) ∧ SeV B w' c2 (updL D (listL a.d)) ∧ Below w.heap.size w w' ∧ ∀ OK:Nat → Prop,InB OK cs → (∀ b,w.heap.size ≤ b → OK b) → InB OK c2:=by
 have HC:=hide hc
 have HQ:=hide (SeIn.inB hc)
 have hs:cs.size = 36:=hc.1
 have HB:=hide hB
 have HM:=hide hm
 have H7:=hide h.2.2.2.2.2.2.1.1
 have H8:=hide h.2.2.2.2.2.2.2.1
 have H6:=hide h.2.2.2.2.2.1.1
 have HT:=hide ht
 have HN:=hide h.1
 have w2:=h.2.2.1
 have w3:=h.2.2.2.1
 have nl:=h.2.2.2.2.2.2.2.1.ls.len
 have nf:=h.2.2.2.2.2.2.1.1.ls.len
 clear hc h hB ht hm
 obtain ⟨nm,kd,f,i,s,⟨t0,t1,t2,t3,t4⟩,A,fl,qf,cf,is,qi,ci⟩:=a
 simp only at HN HM H7 H8 H6 HT w2 w3 nl nf hnm
 obtain ⟨d0,d1,d2,d3,d4,d5,d6,d7,d8,d9,d10⟩:=hnm
 have HF:Hid (updL D (listL (AtA.d ⟨nm,kd,f,i,s,(t0,t1,t2,t3,t4),A,fl,qf,cf,is,qi,ci⟩)) = D):=hide (by
  have e:listL (AtA.d ⟨nm,kd,f,i,s,(t0,t1,t2,t3,t4),A,fl,qf,cf,is,qi,ci⟩) = []:=by
   unfold listL AtA.d
   simp only
   rw [if_neg d0,if_neg d1,if_neg d2,if_neg d3,if_neg d4,if_neg d5,if_neg d6,if_neg d7,if_neg d8,if_neg d9,if_neg d10]
  rw [e]; rfl)
 have n0:((strOfNums nm).toList == [97,120,101,115]) = false:=lit_no8 (uh HN) [97,120,101,115] rfl _ rfl d0
 have n1:((strOfNums nm).toList == [112,101,114,109]) = false:=lit_no8 (uh HN) [112,101,114,109] rfl _ rfl d1
 have n2:((strOfNums nm).toList == [107,101,114,110,101,108,95,115,104,97,112,101]) = false:=lit_no8 (uh HN) [107,101,114,110,101,108,95,115,104,97,112,101] rfl _ rfl d2
 have n3:((strOfNums nm).toList == [115,116,114,105,100,101,115]) = false:=lit_no8 (uh HN) [115,116,114,105,100,101,115] rfl _ rfl d3
 have n4:((strOfNums nm).toList == [112,97,100,115]) = false:=lit_no8 (uh HN) [112,97,100,115] rfl _ rfl d4
 have n5:((strOfNums nm).toList == [100,105,108,97,116,105,111,110,115]) = false:=lit_no8 (uh HN) [100,105,108,97,116,105,111,110,115] rfl _ rfl d5
 have n6:((strOfNums nm).toList == [118,97,108,117,101]) = false:=lit_no8 (uh HN) [118,97,108,117,101] rfl _ rfl d6
 have n7:((strOfNums nm).toList == [118,97,108,117,101,95,102,108,111,97,116]) = false:=lit_no8 (uh HN) [118,97,108,117,101,95,102,108,111,97,116] rfl _ rfl d7
 have n8:((strOfNums nm).toList == [118,97,108,117,101,95,105,110,116]) = false:=lit_no8 (uh HN) [118,97,108,117,101,95,105,110,116] rfl _ rfl d8
 have n9:((strOfNums nm).toList == [118,97,108,117,101,95,102,108,111,97,116,115]) = false:=lit_no8 (uh HN) [118,97,108,117,101,95,102,108,111,97,116,115] rfl _ rfl d9
 have n10:((strOfNums nm).toList == [118,97,108,117,101,95,105,110,116,115]) = false:=lit_no8 (uh HN) [118,97,108,117,101,95,105,110,116,115] rfl _ rfl d10
 clear d0 d1 d2 d3 d4 d5 d6 d7 d8 d9 d10 HM HN
 obtain ⟨L,hL⟩:∃ L,atCells ⟨nm,kd,f,i,s,(t0,t1,t2,t3,t4),A,fl,qf,cf,is,qi,ci⟩ = L:=⟨_,rfl⟩
 rw [hL]
 obtain ⟨W,hW⟩:∃ W,W = ((w.alloc (.cells cs 35)).alloc (.cells L.toArray 45)).alloc (.cells zeroC 35):=⟨_,rfl⟩
 have ZW:W.heap.size = w.heap.size + 3:=by rw [hW]; simp
 have BW:Hid (Below w.heap.size w W):=hide (by rw [hW]; exact se_below)
 have G0:Hid (Box W w.heap.size cs 35):=hide (by rw [hW]; exact se_box)
 have A0:Hid (Box W (w.heap.size + 1) L.toArray 45):=hide (by rw [hW]; exact se_boxA)
 have R0:Hid (Box W (w.heap.size + 2) zeroC 35):=hide (by rw [hW]; exact se_boxR)
 have k0:W.cell? ⟨w.heap.size + 1,0,none⟩ = some (.string (strOfNums nm)):=by rw [(uh A0).cell,← hL]; rfl
 clear hL A0
 have CS:=G0
 have R1:=R0
 have IN:=HC
 have BV:=BW
 go_enter Try.func38,Try.ntmps38
 unfold zeroC at hW
 go_wp2_with (first | (rw [← hW]; clear hW) | (refine wpList_load8 rfl _ rfl rfl (uh CS) (uh IN).1 ?_) | (refine wpList_store8 rfl _ _ rfl rfl rfl (uh R1) (uh IN).1 rfl (SeIn.ones (uh IN)) ?_; intro w5 b5 s5 _; have B5:=hide b5; have S5:=hide s5; clear b5 s5))
 have BT:Hid (Below w.heap.size w w5):=hide (bl_tr7 (uh BV) (bl_mono7 (uh S5).1 (by omega)))
 rw [uh HF]
 refine bodyPost_ret (results_se1 rfl rfl (uh B5) (uh IN).1) rfl ⟨_,rfl,?_,uh BT,?_⟩
 ·exact (uh IN).below (uh BT)
 ·exact fun OK h1 h2 => h1
theorem rlists8_any (cs:Array Value) (D:SeD) (a:AtA) (B B':Nat) (w:World) (hc:SeV B w cs D) (hB:B ≤ w.heap.size) (h:AtIn B' w a) (ht:okT8 a.T) (hm:smallA a) :
  Calls Try.prog 38 #[.agg cs,.agg (atCells a).toArray] w fun e w' => ∃ c2,e = .returned (.agg c2) ∧ SeV B w' c2 (updL D (listL a.d)) ∧ Below w.heap.size w w' ∧ ∀ OK:Nat → Prop,InB OK cs → (∀ b,w.heap.size ≤ b → OK b) → InB OK c2:=by
 by_cases d0:a.nm = [97,120,101,115]
 ·exact rlists8_axes cs D a B B' w hc hB h ht hm d0
 by_cases d1:a.nm = [112,101,114,109]
 ·exact rlists8_perm cs D a B B' w hc hB h ht hm d1
 by_cases d2:a.nm = [107,101,114,110,101,108,95,115,104,97,112,101]
 ·exact rlists8_kernel_shape cs D a B B' w hc hB h ht hm d2
 by_cases d3:a.nm = [115,116,114,105,100,101,115]
 ·exact rlists8_strides cs D a B B' w hc hB h ht hm d3
 by_cases d4:a.nm = [112,97,100,115]
 ·exact rlists8_pads cs D a B B' w hc hB h ht hm d4
 by_cases d5:a.nm = [100,105,108,97,116,105,111,110,115]
 ·exact rlists8_dilations cs D a B B' w hc hB h ht hm d5
 by_cases d6:a.nm = [118,97,108,117,101]
 ·exact rlists8_value cs D a B B' w hc hB h ht hm d6
 by_cases d7:a.nm = [118,97,108,117,101,95,102,108,111,97,116]
 ·exact rlists8_value_float cs D a B B' w hc hB h ht hm d7
 by_cases d8:a.nm = [118,97,108,117,101,95,105,110,116]
 ·exact rlists8_value_int cs D a B B' w hc hB h ht hm d8
 by_cases d9:a.nm = [118,97,108,117,101,95,102,108,111,97,116,115]
 ·exact rlists8_value_floats cs D a B B' w hc hB h ht hm d9
 by_cases d10:a.nm = [118,97,108,117,101,95,105,110,116,115]
 ·exact rlists8_value_ints cs D a B B' w hc hB h ht hm d10
 exact rlists8_no cs D a B B' w hc hB h ht hm ⟨d0,d1,d2,d3,d4,d5,d6,d7,d8,d9,d10⟩
end Go.Proofs.Ytnmciappielkcaa
