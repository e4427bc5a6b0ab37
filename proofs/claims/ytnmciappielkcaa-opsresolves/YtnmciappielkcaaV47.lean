import Derived.Test.YtnmciappielkcaaV32
import Derived.Test.YtnmciappielkcaaV43
import Derived.Test.YtnmciappielkcaaV46
set_option maxRecDepth 100000
set_option maxHeartbeats 8000000
namespace Go.Proofs.Ytnmciappielkcaa
open Go.RowKit
set_option linter.unusedVariables false
set_option linter.unusedSimpArgs false
theorem wp_load8w {w:World} {o:Oper} {a:Act} {K:Act → World → Prop} {Q:Exit → Act → World → Prop} (p:Operand) (ho:o.op = .load 35 p)
  {g:Nat} {cs:Array Value} {t:TypeId} (hp:a.eval p = .pointer (some ⟨g,0,none⟩)) (hb:Box w g cs t) (hs:cs.size = 36) (h:K (a.put o.dst (.agg cs)) w):Oper.wp Try.prog o a w K Q:=by
 unfold Oper.wp
 simp only [execOp,ho,Instr.loadAt,hp,Instr.sureAddr,Sem.run_bind,Sem.run_pure,Result.andThen_ok,loadVar_box8 hb hs]
 exact h
theorem ite_p {P:Int → Prop} {c:Prop} [Decidable c] {a b:Int} (ha:P a) (hb:P b):P (if c then a else b):=by
 split
 ·exact ha
 ·exact hb
theorem mode_wf (op:Int) (nm s:Str):(Lit.int .i64 (modeR op nm s)).wf = true:=by
 unfold modeR
 exact ite_p (P:=fun x => (Lit.int .i64 x).wf = true) rfl (ite_p (P:=fun x => (Lit.int .i64 x).wf = true) rfl (ite_p (P:=fun x => (Lit.int .i64 x).wf = true) rfl (ite_p (P:=fun x => (Lit.int .i64 x).wf = true) rfl (ite_p (P:=fun x => (Lit.int .i64 x).wf = true) rfl (ite_p (P:=fun x => (Lit.int .i64 x).wf = true) rfl (ite_p (P:=fun x => (Lit.int .i64 x).wf = true) rfl (ite_p (P:=fun x => (Lit.int .i64 x).wf = true) rfl (ite_p (P:=fun x => (Lit.int .i64 x).wf = true) rfl (ite_p (P:=fun x => (Lit.int .i64 x).wf = true) rfl (ite_p (P:=fun x => (Lit.int .i64 x).wf = true) rfl (ite_p (P:=fun x => (Lit.int .i64 x).wf = true) rfl (rfl))))))))))))
theorem rset8_axis (op:Int) (cs:Array Value) (D:SeD) (a:AtA) (B B':Nat) (w:World) (hc:SeV B w cs D) (hB:B ≤ w.heap.size) (h:AtIn B' w a) (ht:okT8 a.T) (hm:smallA a) (hnm:a.nm = [97,120,105,115]) :
  Calls Try.prog 22 #[.int .i64 op,.agg cs,.agg (atCells a).toArray] w fun e w' => ∃ c2,e = .returned (.agg c2) ∧ SeV B w' c2 (updL D (setL op a.d)) ∧ Below w.heap.size w w' ∧ ∀ OK:Nat → Prop,InB OK cs → (∀ b,w.heap.size ≤ b → OK b) → InB OK c2:=by
 have HC:=hide hc
 have hs:cs.size = 36:=hc.1
 have HN:=hide h.1
 have H5:=hide h.2.2.2.2.1
 have w2:=h.2.2.1
 have w3:=h.2.2.2.1
 clear hc h hB ht hm
 obtain ⟨nm,kd,f,i,s,⟨t0,t1,t2,t3,t4⟩,A,fl,qf,cf,is,qi,ci⟩:=a
 simp only at HN H5 w2 w3 hnm
 have HF:Hid (updL D (setL op (AtA.d ⟨nm,kd,f,i,s,(t0,t1,t2,t3,t4),A,fl,qf,cf,is,qi,ci⟩)) = updD D 0 (.i i)):=hide (by rw [hnm]; rfl)
 have n0:((strOfNums nm).toList == [97,120,105,115]) = true:=lit_yes8 (uh HN) [97,120,105,115] rfl _ rfl hnm
 clear hnm HN H5
 obtain ⟨L,hL⟩:∃ L,atCells ⟨nm,kd,f,i,s,(t0,t1,t2,t3,t4),A,fl,qf,cf,is,qi,ci⟩ = L:=⟨_,rfl⟩
 rw [hL]
 obtain ⟨W,hW⟩:∃ W,W = ((w.alloc (.cells cs 35)).alloc (.cells L.toArray 45)).alloc (.cells zeroC 35):=⟨_,rfl⟩
 have ZW:W.heap.size = w.heap.size + 3:=by rw [hW]; simp
 have BW:Hid (Below w.heap.size w W):=hide (by rw [hW]; exact se_below)
 have G0:Hid (Box W w.heap.size cs 35):=hide (by rw [hW]; exact se_box)
 have A0:Hid (Box W (w.heap.size + 1) L.toArray 45):=hide (by rw [hW]; exact se_boxA)
 have R0:Hid (Box W (w.heap.size + 2) zeroC 35):=hide (by rw [hW]; exact se_boxR)
 have k0:W.cell? ⟨w.heap.size + 1,0,none⟩ = some (.string (strOfNums nm)):=by rw [(uh A0).cell,← hL]; rfl
 have k3:W.cell? ⟨w.heap.size + 1,3,none⟩ = some (.int .i64 i):=by rw [(uh A0).cell,← hL]; rfl
 obtain ⟨⟨v0,c0⟩,f0⟩:(∃ v,W.cell? ⟨w.heap.size,0,none⟩ = some v) ∧ W.frozen? ⟨w.heap.size,0,none⟩ = false:=⟨(uh G0).some8 (by rw [hs]; decide),(uh G0).frozen 0⟩
 have hg:w.heap.size < W.heap.size:=by omega
 have CS:=hide ((uh G0).same 0 (.int .i64 i))
 have R1:Hid (Box (W.setCell ⟨w.heap.size,0,none⟩ (.int .i64 i)) (w.heap.size + 2) zeroC 35):=hide ((uh R0).other (by omega) 0 (.int .i64 i))
 have IN:=hide ((uh HC).setI 0 i w3 (by decide) rfl)
 have BV:Hid (Below w.heap.size w (W.setCell ⟨w.heap.size,0,none⟩ (.int .i64 i))):=hide (Below.setCell (uh BW) (Nat.le_refl _) _)
 clear hL A0
 go_enter Try.func22,Try.ntmps22
 unfold zeroC at hW
 go_wp2_with (first | (rw [← hW]; clear hW) | (refine wpList_load8 rfl _ rfl rfl (uh CS) (uh IN).1 ?_) | (refine wpList_store8 rfl _ _ rfl rfl rfl (uh R1) (uh IN).1 rfl (SeIn.ones (uh IN)) ?_; intro w5 b5 s5 _; have B5:=hide b5; have S5:=hide s5; clear b5 s5))
 have BT:Hid (Below w.heap.size w w5):=hide (bl_tr7 (uh BV) (bl_mono7 (uh S5).1 (by omega)))
 rw [uh HF]
 refine bodyPost_ret (results_se1 rfl rfl (uh B5) (uh IN).1) rfl ⟨_,rfl,(uh IN).below (uh BT),uh BT,?_⟩
 exact fun OK h1 h2 => (h1.set (fun b o n c e _ => by cases e))
theorem rset8_alpha (op:Int) (cs:Array Value) (D:SeD) (a:AtA) (B B':Nat) (w:World) (hc:SeV B w cs D) (hB:B ≤ w.heap.size) (h:AtIn B' w a) (ht:okT8 a.T) (hm:smallA a) (hnm:a.nm = [97,108,112,104,97]) :
  Calls Try.prog 22 #[.int .i64 op,.agg cs,.agg (atCells a).toArray] w fun e w' => ∃ c2,e = .returned (.agg c2) ∧ SeV B w' c2 (updL D (setL op a.d)) ∧ Below w.heap.size w w' ∧ ∀ OK:Nat → Prop,InB OK cs → (∀ b,w.heap.size ≤ b → OK b) → InB OK c2:=by
 have HC:=hide hc
 have hs:cs.size = 36:=hc.1
 have HN:=hide h.1
 have H5:=hide h.2.2.2.2.1
 have w2:=h.2.2.1
 have w3:=h.2.2.2.1
 clear hc h hB ht hm
 obtain ⟨nm,kd,f,i,s,⟨t0,t1,t2,t3,t4⟩,A,fl,qf,cf,is,qi,ci⟩:=a
 simp only at HN H5 w2 w3 hnm
 have HF:Hid (updL D (setL op (AtA.d ⟨nm,kd,f,i,s,(t0,t1,t2,t3,t4),A,fl,qf,cf,is,qi,ci⟩)) = updD D 9 (.u f)):=hide (by rw [hnm]; rfl)
 have n0:((strOfNums nm).toList == [97,120,105,115]) = false:=lit_no8 (uh HN) [97,120,105,115] rfl _ rfl (by rw [hnm]; decide)
 have n1:((strOfNums nm).toList == [97,108,112,104,97]) = true:=lit_yes8 (uh HN) [97,108,112,104,97] rfl _ rfl hnm
 clear hnm HN H5
 obtain ⟨L,hL⟩:∃ L,atCells ⟨nm,kd,f,i,s,(t0,t1,t2,t3,t4),A,fl,qf,cf,is,qi,ci⟩ = L:=⟨_,rfl⟩
 rw [hL]
 obtain ⟨W,hW⟩:∃ W,W = ((w.alloc (.cells cs 35)).alloc (.cells L.toArray 45)).alloc (.cells zeroC 35):=⟨_,rfl⟩
 have ZW:W.heap.size = w.heap.size + 3:=by rw [hW]; simp
 have BW:Hid (Below w.heap.size w W):=hide (by rw [hW]; exact se_below)
 have G0:Hid (Box W w.heap.size cs 35):=hide (by rw [hW]; exact se_box)
 have A0:Hid (Box W (w.heap.size + 1) L.toArray 45):=hide (by rw [hW]; exact se_boxA)
 have R0:Hid (Box W (w.heap.size + 2) zeroC 35):=hide (by rw [hW]; exact se_boxR)
 have k0:W.cell? ⟨w.heap.size + 1,0,none⟩ = some (.string (strOfNums nm)):=by rw [(uh A0).cell,← hL]; rfl
 have k2:W.cell? ⟨w.heap.size + 1,2,none⟩ = some (.int .u32 f):=by rw [(uh A0).cell,← hL]; rfl
 obtain ⟨⟨v9,c9⟩,f9⟩:(∃ v,W.cell? ⟨w.heap.size,9,none⟩ = some v) ∧ W.frozen? ⟨w.heap.size,9,none⟩ = false:=⟨(uh G0).some8 (by rw [hs]; decide),(uh G0).frozen 9⟩
 have hg:w.heap.size < W.heap.size:=by omega
 have CS:=hide ((uh G0).same 9 (.int .u32 f))
 have R1:Hid (Box (W.setCell ⟨w.heap.size,9,none⟩ (.int .u32 f)) (w.heap.size + 2) zeroC 35):=hide ((uh R0).other (by omega) 9 (.int .u32 f))
 have IN:=hide ((uh HC).setU 9 f w2 (by decide) rfl)
 have BV:Hid (Below w.heap.size w (W.setCell ⟨w.heap.size,9,none⟩ (.int .u32 f))):=hide (Below.setCell (uh BW) (Nat.le_refl _) _)
 clear hL A0
 go_enter Try.func22,Try.ntmps22
 unfold zeroC at hW
 go_wp2_with (first | (rw [← hW]; clear hW) | (refine wpList_load8 rfl _ rfl rfl (uh CS) (uh IN).1 ?_) | (refine wpList_store8 rfl _ _ rfl rfl rfl (uh R1) (uh IN).1 rfl (SeIn.ones (uh IN)) ?_; intro w5 b5 s5 _; have B5:=hide b5; have S5:=hide s5; clear b5 s5))
 have BT:Hid (Below w.heap.size w w5):=hide (bl_tr7 (uh BV) (bl_mono7 (uh S5).1 (by omega)))
 rw [uh HF]
 refine bodyPost_ret (results_se1 rfl rfl (uh B5) (uh IN).1) rfl ⟨_,rfl,(uh IN).below (uh BT),uh BT,?_⟩
 exact fun OK h1 h2 => (h1.set (fun b o n c e _ => by cases e))
theorem rset8_beta (op:Int) (cs:Array Value) (D:SeD) (a:AtA) (B B':Nat) (w:World) (hc:SeV B w cs D) (hB:B ≤ w.heap.size) (h:AtIn B' w a) (ht:okT8 a.T) (hm:smallA a) (hnm:a.nm = [98,101,116,97]) :
  Calls Try.prog 22 #[.int .i64 op,.agg cs,.agg (atCells a).toArray] w fun e w' => ∃ c2,e = .returned (.agg c2) ∧ SeV B w' c2 (updL D (setL op a.d)) ∧ Below w.heap.size w w' ∧ ∀ OK:Nat → Prop,InB OK cs → (∀ b,w.heap.size ≤ b → OK b) → InB OK c2:=by
 have HC:=hide hc
 have hs:cs.size = 36:=hc.1
 have HN:=hide h.1
 have H5:=hide h.2.2.2.2.1
 have w2:=h.2.2.1
 have w3:=h.2.2.2.1
 clear hc h hB ht hm
 obtain ⟨nm,kd,f,i,s,⟨t0,t1,t2,t3,t4⟩,A,fl,qf,cf,is,qi,ci⟩:=a
 simp only at HN H5 w2 w3 hnm
 have HF:Hid (updL D (setL op (AtA.d ⟨nm,kd,f,i,s,(t0,t1,t2,t3,t4),A,fl,qf,cf,is,qi,ci⟩)) = updD D 10 (.u f)):=hide (by rw [hnm]; rfl)
 have n0:((strOfNums nm).toList == [97,120,105,115]) = false:=lit_no8 (uh HN) [97,120,105,115] rfl _ rfl (by rw [hnm]; decide)
 have n1:((strOfNums nm).toList == [97,108,112,104,97]) = false:=lit_no8 (uh HN) [97,108,112,104,97] rfl _ rfl (by rw [hnm]; decide)
 have n2:((strOfNums nm).toList == [98,101,116,97]) = true:=lit_yes8 (uh HN) [98,101,116,97] rfl _ rfl hnm
 clear hnm HN H5
 obtain ⟨L,hL⟩:∃ L,atCells ⟨nm,kd,f,i,s,(t0,t1,t2,t3,t4),A,fl,qf,cf,is,qi,ci⟩ = L:=⟨_,rfl⟩
 rw [hL]
 obtain ⟨W,hW⟩:∃ W,W = ((w.alloc (.cells cs 35)).alloc (.cells L.toArray 45)).alloc (.cells zeroC 35):=⟨_,rfl⟩
 have ZW:W.heap.size = w.heap.size + 3:=by rw [hW]; simp
 have BW:Hid (Below w.heap.size w W):=hide (by rw [hW]; exact se_below)
 have G0:Hid (Box W w.heap.size cs 35):=hide (by rw [hW]; exact se_box)
 have A0:Hid (Box W (w.heap.size + 1) L.toArray 45):=hide (by rw [hW]; exact se_boxA)
 have R0:Hid (Box W (w.heap.size + 2) zeroC 35):=hide (by rw [hW]; exact se_boxR)
 have k0:W.cell? ⟨w.heap.size + 1,0,none⟩ = some (.string (strOfNums nm)):=by rw [(uh A0).cell,← hL]; rfl
 have k2:W.cell? ⟨w.heap.size + 1,2,none⟩ = some (.int .u32 f):=by rw [(uh A0).cell,← hL]; rfl
 obtain ⟨⟨v10,c10⟩,f10⟩:(∃ v,W.cell? ⟨w.heap.size,10,none⟩ = some v) ∧ W.frozen? ⟨w.heap.size,10,none⟩ = false:=⟨(uh G0).some8 (by rw [hs]; decide),(uh G0).frozen 10⟩
 have hg:w.heap.size < W.heap.size:=by omega
 have CS:=hide ((uh G0).same 10 (.int .u32 f))
 have R1:Hid (Box (W.setCell ⟨w.heap.size,10,none⟩ (.int .u32 f)) (w.heap.size + 2) zeroC 35):=hide ((uh R0).other (by omega) 10 (.int .u32 f))
 have IN:=hide ((uh HC).setU 10 f w2 (by decide) rfl)
 have BV:Hid (Below w.heap.size w (W.setCell ⟨w.heap.size,10,none⟩ (.int .u32 f))):=hide (Below.setCell (uh BW) (Nat.le_refl _) _)
 clear hL A0
 go_enter Try.func22,Try.ntmps22
 unfold zeroC at hW
 go_wp2_with (first | (rw [← hW]; clear hW) | (refine wpList_load8 rfl _ rfl rfl (uh CS) (uh IN).1 ?_) | (refine wpList_store8 rfl _ _ rfl rfl rfl (uh R1) (uh IN).1 rfl (SeIn.ones (uh IN)) ?_; intro w5 b5 s5 _; have B5:=hide b5; have S5:=hide s5; clear b5 s5))
 have BT:Hid (Below w.heap.size w w5):=hide (bl_tr7 (uh BV) (bl_mono7 (uh S5).1 (by omega)))
 rw [uh HF]
 refine bodyPost_ret (results_se1 rfl rfl (uh B5) (uh IN).1) rfl ⟨_,rfl,(uh IN).below (uh BT),uh BT,?_⟩
 exact fun OK h1 h2 => (h1.set (fun b o n c e _ => by cases e))
theorem rset8_epsilon (op:Int) (cs:Array Value) (D:SeD) (a:AtA) (B B':Nat) (w:World) (hc:SeV B w cs D) (hB:B ≤ w.heap.size) (h:AtIn B' w a) (ht:okT8 a.T) (hm:smallA a) (hnm:a.nm = [101,112,115,105,108,111,110]) :
  Calls Try.prog 22 #[.int .i64 op,.agg cs,.agg (atCells a).toArray] w fun e w' => ∃ c2,e = .returned (.agg c2) ∧ SeV B w' c2 (updL D (setL op a.d)) ∧ Below w.heap.size w w' ∧ ∀ OK:Nat → Prop,InB OK cs → (∀ b,w.heap.size ≤ b → OK b) → InB OK c2:=by
 have HC:=hide hc
 have hs:cs.size = 36:=hc.1
 have HN:=hide h.1
 have H5:=hide h.2.2.2.2.1
 have w2:=h.2.2.1
 have w3:=h.2.2.2.1
 clear hc h hB ht hm
 obtain ⟨nm,kd,f,i,s,⟨t0,t1,t2,t3,t4⟩,A,fl,qf,cf,is,qi,ci⟩:=a
 simp only at HN H5 w2 w3 hnm
 have HF:Hid (updL D (setL op (AtA.d ⟨nm,kd,f,i,s,(t0,t1,t2,t3,t4),A,fl,qf,cf,is,qi,ci⟩)) = updD D 11 (.u f)):=hide (by rw [hnm]; rfl)
 have n0:((strOfNums nm).toList == [97,120,105,115]) = false:=lit_no8 (uh HN) [97,120,105,115] rfl _ rfl (by rw [hnm]; decide)
 have n1:((strOfNums nm).toList == [97,108,112,104,97]) = false:=lit_no8 (uh HN) [97,108,112,104,97] rfl _ rfl (by rw [hnm]; decide)
 have n2:((strOfNums nm).toList == [98,101,116,97]) = false:=lit_no8 (uh HN) [98,101,116,97] rfl _ rfl (by rw [hnm]; decide)
 have n3:((strOfNums nm).toList == [101,112,115,105,108,111,110]) = true:=lit_yes8 (uh HN) [101,112,115,105,108,111,110] rfl _ rfl hnm
 clear hnm HN H5
 obtain ⟨L,hL⟩:∃ L,atCells ⟨nm,kd,f,i,s,(t0,t1,t2,t3,t4),A,fl,qf,cf,is,qi,ci⟩ = L:=⟨_,rfl⟩
 rw [hL]
 obtain ⟨W,hW⟩:∃ W,W = ((w.alloc (.cells cs 35)).alloc (.cells L.toArray 45)).alloc (.cells zeroC 35):=⟨_,rfl⟩
 have ZW:W.heap.size = w.heap.size + 3:=by rw [hW]; simp
 have BW:Hid (Below w.heap.size w W):=hide (by rw [hW]; exact se_below)
 have G0:Hid (Box W w.heap.size cs 35):=hide (by rw [hW]; exact se_box)
 have A0:Hid (Box W (w.heap.size + 1) L.toArray 45):=hide (by rw [hW]; exact se_boxA)
 have R0:Hid (Box W (w.heap.size + 2) zeroC 35):=hide (by rw [hW]; exact se_boxR)
 have k0:W.cell? ⟨w.heap.size + 1,0,none⟩ = some (.string (strOfNums nm)):=by rw [(uh A0).cell,← hL]; rfl
 have k2:W.cell? ⟨w.heap.size + 1,2,none⟩ = some (.int .u32 f):=by rw [(uh A0).cell,← hL]; rfl
 obtain ⟨⟨v11,c11⟩,f11⟩:(∃ v,W.cell? ⟨w.heap.size,11,none⟩ = some v) ∧ W.frozen? ⟨w.heap.size,11,none⟩ = false:=⟨(uh G0).some8 (by rw [hs]; decide),(uh G0).frozen 11⟩
 have hg:w.heap.size < W.heap.size:=by omega
 have CS:=hide ((uh G0).same 11 (.int .u32 f))
 have R1:Hid (Box (W.setCell ⟨w.heap.size,11,none⟩ (.int .u32 f)) (w.heap.size + 2) zeroC 35):=hide ((uh R0).other (by omega) 11 (.int .u32 f))
 have IN:=hide ((uh HC).setU 11 f w2 (by decide) rfl)
 have BV:Hid (Below w.heap.size w (W.setCell ⟨w.heap.size,11,none⟩ (.int .u32 f))):=hide (Below.setCell (uh BW) (Nat.le_refl _) _)
 clear hL A0
 go_enter Try.func22,Try.ntmps22
 unfold zeroC at hW
 go_wp2_with (first | (rw [← hW]; clear hW) | (refine wpList_load8 rfl _ rfl rfl (uh CS) (uh IN).1 ?_) | (refine wpList_store8 rfl _ _ rfl rfl rfl (uh R1) (uh IN).1 rfl (SeIn.ones (uh IN)) ?_; intro w5 b5 s5 _; have B5:=hide b5; have S5:=hide s5; clear b5 s5))
 have BT:Hid (Below w.heap.size w w5):=hide (bl_tr7 (uh BV) (bl_mono7 (uh S5).1 (by omega)))
 rw [uh HF]
 refine bodyPost_ret (results_se1 rfl rfl (uh B5) (uh IN).1) rfl ⟨_,rfl,(uh IN).below (uh BT),uh BT,?_⟩
 exact fun OK h1 h2 => (h1.set (fun b o n c e _ => by cases e))
theorem rset8_to (op:Int) (cs:Array Value) (D:SeD) (a:AtA) (B B':Nat) (w:World) (hc:SeV B w cs D) (hB:B ≤ w.heap.size) (h:AtIn B' w a) (ht:okT8 a.T) (hm:smallA a) (hnm:a.nm = [116,111]) :
  Calls Try.prog 22 #[.int .i64 op,.agg cs,.agg (atCells a).toArray] w fun e w' => ∃ c2,e = .returned (.agg c2) ∧ SeV B w' c2 (updL D (setL op a.d)) ∧ Below w.heap.size w w' ∧ ∀ OK:Nat → Prop,InB OK cs → (∀ b,w.heap.size ≤ b → OK b) → InB OK c2:=by
 have HC:=hide hc
 have hs:cs.size = 36:=hc.1
 have HN:=hide h.1
 have H5:=hide h.2.2.2.2.1
 have w2:=h.2.2.1
 have w3:=h.2.2.2.1
 clear hc h hB ht hm
 obtain ⟨nm,kd,f,i,s,⟨t0,t1,t2,t3,t4⟩,A,fl,qf,cf,is,qi,ci⟩:=a
 simp only at HN H5 w2 w3 hnm
 have HF:Hid (updL D (setL op (AtA.d ⟨nm,kd,f,i,s,(t0,t1,t2,t3,t4),A,fl,qf,cf,is,qi,ci⟩)) = updD D 15 (.i i)):=hide (by rw [hnm]; rfl)
 have n0:((strOfNums nm).toList == [97,120,105,115]) = false:=lit_no8 (uh HN) [97,120,105,115] rfl _ rfl (by rw [hnm]; decide)
 have n1:((strOfNums nm).toList == [97,108,112,104,97]) = false:=lit_no8 (uh HN) [97,108,112,104,97] rfl _ rfl (by rw [hnm]; decide)
 have n2:((strOfNums nm).toList == [98,101,116,97]) = false:=lit_no8 (uh HN) [98,101,116,97] rfl _ rfl (by rw [hnm]; decide)
 have n3:((strOfNums nm).toList == [101,112,115,105,108,111,110]) = false:=lit_no8 (uh HN) [101,112,115,105,108,111,110] rfl _ rfl (by rw [hnm]; decide)
 have n4:((strOfNums nm).toList == [116,111]) = true:=lit_yes8 (uh HN) [116,111] rfl _ rfl hnm
 clear hnm HN H5
 obtain ⟨L,hL⟩:∃ L,atCells ⟨nm,kd,f,i,s,(t0,t1,t2,t3,t4),A,fl,qf,cf,is,qi,ci⟩ = L:=⟨_,rfl⟩
 rw [hL]
 obtain ⟨W,hW⟩:∃ W,W = ((w.alloc (.cells cs 35)).alloc (.cells L.toArray 45)).alloc (.cells zeroC 35):=⟨_,rfl⟩
 have ZW:W.heap.size = w.heap.size + 3:=by rw [hW]; simp
 have BW:Hid (Below w.heap.size w W):=hide (by rw [hW]; exact se_below)
 have G0:Hid (Box W w.heap.size cs 35):=hide (by rw [hW]; exact se_box)
 have A0:Hid (Box W (w.heap.size + 1) L.toArray 45):=hide (by rw [hW]; exact se_boxA)
 have R0:Hid (Box W (w.heap.size + 2) zeroC 35):=hide (by rw [hW]; exact se_boxR)
 have k0:W.cell? ⟨w.heap.size + 1,0,none⟩ = some (.string (strOfNums nm)):=by rw [(uh A0).cell,← hL]; rfl
 have k3:W.cell? ⟨w.heap.size + 1,3,none⟩ = some (.int .i64 i):=by rw [(uh A0).cell,← hL]; rfl
 obtain ⟨⟨v15,c15⟩,f15⟩:(∃ v,W.cell? ⟨w.heap.size,15,none⟩ = some v) ∧ W.frozen? ⟨w.heap.size,15,none⟩ = false:=⟨(uh G0).some8 (by rw [hs]; decide),(uh G0).frozen 15⟩
 have hg:w.heap.size < W.heap.size:=by omega
 have CS:=hide ((uh G0).same 15 (.int .i64 i))
 have R1:Hid (Box (W.setCell ⟨w.heap.size,15,none⟩ (.int .i64 i)) (w.heap.size + 2) zeroC 35):=hide ((uh R0).other (by omega) 15 (.int .i64 i))
 have IN:=hide ((uh HC).setI 15 i w3 (by decide) rfl)
 have BV:Hid (Below w.heap.size w (W.setCell ⟨w.heap.size,15,none⟩ (.int .i64 i))):=hide (Below.setCell (uh BW) (Nat.le_refl _) _)
 clear hL A0
 go_enter Try.func22,Try.ntmps22
 unfold zeroC at hW
 go_wp2_with (first | (rw [← hW]; clear hW) | (refine wpList_load8 rfl _ rfl rfl (uh CS) (uh IN).1 ?_) | (refine wpList_store8 rfl _ _ rfl rfl rfl (uh R1) (uh IN).1 rfl (SeIn.ones (uh IN)) ?_; intro w5 b5 s5 _; have B5:=hide b5; have S5:=hide s5; clear b5 s5))
 have BT:Hid (Below w.heap.size w w5):=hide (bl_tr7 (uh BV) (bl_mono7 (uh S5).1 (by omega)))
 rw [uh HF]
 refine bodyPost_ret (results_se1 rfl rfl (uh B5) (uh IN).1) rfl ⟨_,rfl,(uh IN).below (uh BT),uh BT,?_⟩
 exact fun OK h1 h2 => (h1.set (fun b o n c e _ => by cases e))
theorem rset8_group (op:Int) (cs:Array Value) (D:SeD) (a:AtA) (B B':Nat) (w:World) (hc:SeV B w cs D) (hB:B ≤ w.heap.size) (h:AtIn B' w a) (ht:okT8 a.T) (hm:smallA a) (hnm:a.nm = [103,114,111,117,112]) :
  Calls Try.prog 22 #[.int .i64 op,.agg cs,.agg (atCells a).toArray] w fun e w' => ∃ c2,e = .returned (.agg c2) ∧ SeV B w' c2 (updL D (setL op a.d)) ∧ Below w.heap.size w w' ∧ ∀ OK:Nat → Prop,InB OK cs → (∀ b,w.heap.size ≤ b → OK b) → InB OK c2:=by
 have HC:=hide hc
 have hs:cs.size = 36:=hc.1
 have HN:=hide h.1
 have H5:=hide h.2.2.2.2.1
 have w2:=h.2.2.1
 have w3:=h.2.2.2.1
 clear hc h hB ht hm
 obtain ⟨nm,kd,f,i,s,⟨t0,t1,t2,t3,t4⟩,A,fl,qf,cf,is,qi,ci⟩:=a
 simp only at HN H5 w2 w3 hnm
 have HF:Hid (updL D (setL op (AtA.d ⟨nm,kd,f,i,s,(t0,t1,t2,t3,t4),A,fl,qf,cf,is,qi,ci⟩)) = updD D 19 (.i i)):=hide (by rw [hnm]; rfl)
 have n0:((strOfNums nm).toList == [97,120,105,115]) = false:=lit_no8 (uh HN) [97,120,105,115] rfl _ rfl (by rw [hnm]; decide)
 have n1:((strOfNums nm).toList == [97,108,112,104,97]) = false:=lit_no8 (uh HN) [97,108,112,104,97] rfl _ rfl (by rw [hnm]; decide)
 have n2:((strOfNums nm).toList == [98,101,116,97]) = false:=lit_no8 (uh HN) [98,101,116,97] rfl _ rfl (by rw [hnm]; decide)
 have n3:((strOfNums nm).toList == [101,112,115,105,108,111,110]) = false:=lit_no8 (uh HN) [101,112,115,105,108,111,110] rfl _ rfl (by rw [hnm]; decide)
 have n4:((strOfNums nm).toList == [116,111]) = false:=lit_no8 (uh HN) [116,111] rfl _ rfl (by rw [hnm]; decide)
 have n5:((strOfNums nm).toList == [103,114,111,117,112]) = true:=lit_yes8 (uh HN) [103,114,111,117,112] rfl _ rfl hnm
 clear hnm HN H5
 obtain ⟨L,hL⟩:∃ L,atCells ⟨nm,kd,f,i,s,(t0,t1,t2,t3,t4),A,fl,qf,cf,is,qi,ci⟩ = L:=⟨_,rfl⟩
 rw [hL]
 obtain ⟨W,hW⟩:∃ W,W = ((w.alloc (.cells cs 35)).alloc (.cells L.toArray 45)).alloc (.cells zeroC 35):=⟨_,rfl⟩
 have ZW:W.heap.size = w.heap.size + 3:=by rw [hW]; simp
 have BW:Hid (Below w.heap.size w W):=hide (by rw [hW]; exact se_below)
 have G0:Hid (Box W w.heap.size cs 35):=hide (by rw [hW]; exact se_box)
 have A0:Hid (Box W (w.heap.size + 1) L.toArray 45):=hide (by rw [hW]; exact se_boxA)
 have R0:Hid (Box W (w.heap.size + 2) zeroC 35):=hide (by rw [hW]; exact se_boxR)
 have k0:W.cell? ⟨w.heap.size + 1,0,none⟩ = some (.string (strOfNums nm)):=by rw [(uh A0).cell,← hL]; rfl
 have k3:W.cell? ⟨w.heap.size + 1,3,none⟩ = some (.int .i64 i):=by rw [(uh A0).cell,← hL]; rfl
 obtain ⟨⟨v19,c19⟩,f19⟩:(∃ v,W.cell? ⟨w.heap.size,19,none⟩ = some v) ∧ W.frozen? ⟨w.heap.size,19,none⟩ = false:=⟨(uh G0).some8 (by rw [hs]; decide),(uh G0).frozen 19⟩
 have hg:w.heap.size < W.heap.size:=by omega
 have CS:=hide ((uh G0).same 19 (.int .i64 i))
 have R1:Hid (Box (W.setCell ⟨w.heap.size,19,none⟩ (.int .i64 i)) (w.heap.size + 2) zeroC 35):=hide ((uh R0).other (by omega) 19 (.int .i64 i))
 have IN:=hide ((uh HC).setI 19 i w3 (by decide) rfl)
 have BV:Hid (Below w.heap.size w (W.setCell ⟨w.heap.size,19,none⟩ (.int .i64 i))):=hide (Below.setCell (uh BW) (Nat.le_refl _) _)
 clear hL A0
 go_enter Try.func22,Try.ntmps22
 unfold zeroC at hW
 go_wp2_with (first | (rw [← hW]; clear hW) | (refine wpList_load8 rfl _ rfl rfl (uh CS) (uh IN).1 ?_) | (refine wpList_store8 rfl _ _ rfl rfl rfl (uh R1) (uh IN).1 rfl (SeIn.ones (uh IN)) ?_; intro w5 b5 s5 _; have B5:=hide b5; have S5:=hide s5; clear b5 s5))
 have BT:Hid (Below w.heap.size w w5):=hide (bl_tr7 (uh BV) (bl_mono7 (uh S5).1 (by omega)))
 rw [uh HF]
 refine bodyPost_ret (results_se1 rfl rfl (uh B5) (uh IN).1) rfl ⟨_,rfl,(uh IN).below (uh BT),uh BT,?_⟩
 exact fun OK h1 h2 => (h1.set (fun b o n c e _ => by cases e))
theorem rset8_blocksize (op:Int) (cs:Array Value) (D:SeD) (a:AtA) (B B':Nat) (w:World) (hc:SeV B w cs D) (hB:B ≤ w.heap.size) (h:AtIn B' w a) (ht:okT8 a.T) (hm:smallA a) (hnm:a.nm = [98,108,111,99,107,115,105,122,101]) :
  Calls Try.prog 22 #[.int .i64 op,.agg cs,.agg (atCells a).toArray] w fun e w' => ∃ c2,e = .returned (.agg c2) ∧ SeV B w' c2 (updL D (setL op a.d)) ∧ Below w.heap.size w w' ∧ ∀ OK:Nat → Prop,InB OK cs → (∀ b,w.heap.size ≤ b → OK b) → InB OK c2:=by
 have HC:=hide hc
 have hs:cs.size = 36:=hc.1
 have HN:=hide h.1
 have H5:=hide h.2.2.2.2.1
 have w2:=h.2.2.1
 have w3:=h.2.2.2.1
 clear hc h hB ht hm
 obtain ⟨nm,kd,f,i,s,⟨t0,t1,t2,t3,t4⟩,A,fl,qf,cf,is,qi,ci⟩:=a
 simp only at HN H5 w2 w3 hnm
 have HF:Hid (updL D (setL op (AtA.d ⟨nm,kd,f,i,s,(t0,t1,t2,t3,t4),A,fl,qf,cf,is,qi,ci⟩)) = updD D 27 (.i i)):=hide (by rw [hnm]; rfl)
 have n0:((strOfNums nm).toList == [97,120,105,115]) = false:=lit_no8 (uh HN) [97,120,105,115] rfl _ rfl (by rw [hnm]; decide)
 have n1:((strOfNums nm).toList == [97,108,112,104,97]) = false:=lit_no8 (uh HN) [97,108,112,104,97] rfl _ rfl (by rw [hnm]; decide)
 have n2:((strOfNums nm).toList == [98,101,116,97]) = false:=lit_no8 (uh HN) [98,101,116,97] rfl _ rfl (by rw [hnm]; decide)
 have n3:((strOfNums nm).toList == [101,112,115,105,108,111,110]) = false:=lit_no8 (uh HN) [101,112,115,105,108,111,110] rfl _ rfl (by rw [hnm]; decide)
 have n4:((strOfNums nm).toList == [116,111]) = false:=lit_no8 (uh HN) [116,111] rfl _ rfl (by rw [hnm]; decide)
 have n5:((strOfNums nm).toList == [103,114,111,117,112]) = false:=lit_no8 (uh HN) [103,114,111,117,112] rfl _ rfl (by rw [hnm]; decide)
 have n6:((strOfNums nm).toList == [98,108,111,99,107,115,105,122,101]) = true:=lit_yes8 (uh HN) [98,108,111,99,107,115,105,122,101] rfl _ rfl hnm
 clear hnm HN H5
 obtain ⟨L,hL⟩:∃ L,atCells ⟨nm,kd,f,i,s,(t0,t1,t2,t3,t4),A,fl,qf,cf,is,qi,ci⟩ = L:=⟨_,rfl⟩
 rw [hL]
 obtain ⟨W,hW⟩:∃ W,W = ((w.alloc (.cells cs 35)).alloc (.cells L.toArray 45)).alloc (.cells zeroC 35):=⟨_,rfl⟩
 have ZW:W.heap.size = w.heap.size + 3:=by rw [hW]; simp
 have BW:Hid (Below w.heap.size w W):=hide (by rw [hW]; exact se_below)
 have G0:Hid (Box W w.heap.size cs 35):=hide (by rw [hW]; exact se_box)
 have A0:Hid (Box W (w.heap.size + 1) L.toArray 45):=hide (by rw [hW]; exact se_boxA)
 have R0:Hid (Box W (w.heap.size + 2) zeroC 35):=hide (by rw [hW]; exact se_boxR)
 have k0:W.cell? ⟨w.heap.size + 1,0,none⟩ = some (.string (strOfNums nm)):=by rw [(uh A0).cell,← hL]; rfl
 have k3:W.cell? ⟨w.heap.size + 1,3,none⟩ = some (.int .i64 i):=by rw [(uh A0).cell,← hL]; rfl
 obtain ⟨⟨v27,c27⟩,f27⟩:(∃ v,W.cell? ⟨w.heap.size,27,none⟩ = some v) ∧ W.frozen? ⟨w.heap.size,27,none⟩ = false:=⟨(uh G0).some8 (by rw [hs]; decide),(uh G0).frozen 27⟩
 have hg:w.heap.size < W.heap.size:=by omega
 have CS:=hide ((uh G0).same 27 (.int .i64 i))
 have R1:Hid (Box (W.setCell ⟨w.heap.size,27,none⟩ (.int .i64 i)) (w.heap.size + 2) zeroC 35):=hide ((uh R0).other (by omega) 27 (.int .i64 i))
 have IN:=hide ((uh HC).setI 27 i w3 (by decide) rfl)
 have BV:Hid (Below w.heap.size w (W.setCell ⟨w.heap.size,27,none⟩ (.int .i64 i))):=hide (Below.setCell (uh BW) (Nat.le_refl _) _)
 clear hL A0
 go_enter Try.func22,Try.ntmps22
 unfold zeroC at hW
 go_wp2_with (first | (rw [← hW]; clear hW) | (refine wpList_load8 rfl _ rfl rfl (uh CS) (uh IN).1 ?_) | (refine wpList_store8 rfl _ _ rfl rfl rfl (uh R1) (uh IN).1 rfl (SeIn.ones (uh IN)) ?_; intro w5 b5 s5 _; have B5:=hide b5; have S5:=hide s5; clear b5 s5))
 have BT:Hid (Below w.heap.size w w5):=hide (bl_tr7 (uh BV) (bl_mono7 (uh S5).1 (by omega)))
 rw [uh HF]
 refine bodyPost_ret (results_se1 rfl rfl (uh B5) (uh IN).1) rfl ⟨_,rfl,(uh IN).below (uh BT),uh BT,?_⟩
 exact fun OK h1 h2 => (h1.set (fun b o n c e _ => by cases e))
theorem rset8_start (op:Int) (cs:Array Value) (D:SeD) (a:AtA) (B B':Nat) (w:World) (hc:SeV B w cs D) (hB:B ≤ w.heap.size) (h:AtIn B' w a) (ht:okT8 a.T) (hm:smallA a) (hnm:a.nm = [115,116,97,114,116]) :
  Calls Try.prog 22 #[.int .i64 op,.agg cs,.agg (atCells a).toArray] w fun e w' => ∃ c2,e = .returned (.agg c2) ∧ SeV B w' c2 (updL D (setL op a.d)) ∧ Below w.heap.size w w' ∧ ∀ OK:Nat → Prop,InB OK cs → (∀ b,w.heap.size ≤ b → OK b) → InB OK c2:=by
 have HC:=hide hc
 have hs:cs.size = 36:=hc.1
 have HN:=hide h.1
 have H5:=hide h.2.2.2.2.1
 have w2:=h.2.2.1
 have w3:=h.2.2.2.1
 clear hc h hB ht hm
 obtain ⟨nm,kd,f,i,s,⟨t0,t1,t2,t3,t4⟩,A,fl,qf,cf,is,qi,ci⟩:=a
 simp only at HN H5 w2 w3 hnm
 have HF:Hid (updL D (setL op (AtA.d ⟨nm,kd,f,i,s,(t0,t1,t2,t3,t4),A,fl,qf,cf,is,qi,ci⟩)) = updD D 28 (.i i)):=hide (by rw [hnm]; rfl)
 have n0:((strOfNums nm).toList == [97,120,105,115]) = false:=lit_no8 (uh HN) [97,120,105,115] rfl _ rfl (by rw [hnm]; decide)
 have n1:((strOfNums nm).toList == [97,108,112,104,97]) = false:=lit_no8 (uh HN) [97,108,112,104,97] rfl _ rfl (by rw [hnm]; decide)
 have n2:((strOfNums nm).toList == [98,101,116,97]) = false:=lit_no8 (uh HN) [98,101,116,97] rfl _ rfl (by rw [hnm]; decide)
 have n3:((strOfNums nm).toList == [101,112,115,105,108,111,110]) = false:=lit_no8 (uh HN) [101,112,115,105,108,111,110] rfl _ rfl (by rw [hnm]; decide)
 have n4:((strOfNums nm).toList == [116,111]) = false:=lit_no8 (uh HN) [116,111] rfl _ rfl (by rw [hnm]; decide)
 have n5:((strOfNums nm).toList == [103,114,111,117,112]) = false:=lit_no8 (uh HN) [103,114,111,117,112] rfl _ rfl (by rw [hnm]; decide)
 have n6:((strOfNums nm).toList == [98,108,111,99,107,115,105,122,101]) = false:=lit_no8 (uh HN) [98,108,111,99,107,115,105,122,101] rfl _ rfl (by rw [hnm]; decide)
 have n7:((strOfNums nm).toList == [115,116,97,114,116]) = true:=lit_yes8 (uh HN) [115,116,97,114,116] rfl _ rfl hnm
 clear hnm HN H5
 obtain ⟨L,hL⟩:∃ L,atCells ⟨nm,kd,f,i,s,(t0,t1,t2,t3,t4),A,fl,qf,cf,is,qi,ci⟩ = L:=⟨_,rfl⟩
 rw [hL]
 obtain ⟨W,hW⟩:∃ W,W = ((w.alloc (.cells cs 35)).alloc (.cells L.toArray 45)).alloc (.cells zeroC 35):=⟨_,rfl⟩
 have ZW:W.heap.size = w.heap.size + 3:=by rw [hW]; simp
 have BW:Hid (Below w.heap.size w W):=hide (by rw [hW]; exact se_below)
 have G0:Hid (Box W w.heap.size cs 35):=hide (by rw [hW]; exact se_box)
 have A0:Hid (Box W (w.heap.size + 1) L.toArray 45):=hide (by rw [hW]; exact se_boxA)
 have R0:Hid (Box W (w.heap.size + 2) zeroC 35):=hide (by rw [hW]; exact se_boxR)
 have k0:W.cell? ⟨w.heap.size + 1,0,none⟩ = some (.string (strOfNums nm)):=by rw [(uh A0).cell,← hL]; rfl
 have k3:W.cell? ⟨w.heap.size + 1,3,none⟩ = some (.int .i64 i):=by rw [(uh A0).cell,← hL]; rfl
 obtain ⟨⟨v28,c28⟩,f28⟩:(∃ v,W.cell? ⟨w.heap.size,28,none⟩ = some v) ∧ W.frozen? ⟨w.heap.size,28,none⟩ = false:=⟨(uh G0).some8 (by rw [hs]; decide),(uh G0).frozen 28⟩
 have hg:w.heap.size < W.heap.size:=by omega
 have CS:=hide ((uh G0).same 28 (.int .i64 i))
 have R1:Hid (Box (W.setCell ⟨w.heap.size,28,none⟩ (.int .i64 i)) (w.heap.size + 2) zeroC 35):=hide ((uh R0).other (by omega) 28 (.int .i64 i))
 have IN:=hide ((uh HC).setI 28 i w3 (by decide) rfl)
 have BV:Hid (Below w.heap.size w (W.setCell ⟨w.heap.size,28,none⟩ (.int .i64 i))):=hide (Below.setCell (uh BW) (Nat.le_refl _) _)
 clear hL A0
 go_enter Try.func22,Try.ntmps22
 unfold zeroC at hW
 go_wp2_with (first | (rw [← hW]; clear hW) | (refine wpList_load8 rfl _ rfl rfl (uh CS) (uh IN).1 ?_) | (refine wpList_store8 rfl _ _ rfl rfl rfl (uh R1) (uh IN).1 rfl (SeIn.ones (uh IN)) ?_; intro w5 b5 s5 _; have B5:=hide b5; have S5:=hide s5; clear b5 s5))
 have BT:Hid (Below w.heap.size w w5):=hide (bl_tr7 (uh BV) (bl_mono7 (uh S5).1 (by omega)))
 rw [uh HF]
 refine bodyPost_ret (results_se1 rfl rfl (uh B5) (uh IN).1) rfl ⟨_,rfl,(uh IN).below (uh BT),uh BT,?_⟩
 exact fun OK h1 h2 => (h1.set (fun b o n c e _ => by cases e))
theorem rset8_end (op:Int) (cs:Array Value) (D:SeD) (a:AtA) (B B':Nat) (w:World) (hc:SeV B w cs D) (hB:B ≤ w.heap.size) (h:AtIn B' w a) (ht:okT8 a.T) (hm:smallA a) (hnm:a.nm = [101,110,100]) :
  Calls Try.prog 22 #[.int .i64 op,.agg cs,.agg (atCells a).toArray] w fun e w' => ∃ c2,e = .returned (.agg c2) ∧ SeV B w' c2 (updL D (setL op a.d)) ∧ Below w.heap.size w w' ∧ ∀ OK:Nat → Prop,InB OK cs → (∀ b,w.heap.size ≤ b → OK b) → InB OK c2:=by
 have HC:=hide hc
 have hs:cs.size = 36:=hc.1
 have HN:=hide h.1
 have H5:=hide h.2.2.2.2.1
 have w2:=h.2.2.1
 have w3:=h.2.2.2.1
 clear hc h hB ht hm
 obtain ⟨nm,kd,f,i,s,⟨t0,t1,t2,t3,t4⟩,A,fl,qf,cf,is,qi,ci⟩:=a
 simp only at HN H5 w2 w3 hnm
 have HF:Hid (updL D (setL op (AtA.d ⟨nm,kd,f,i,s,(t0,t1,t2,t3,t4),A,fl,qf,cf,is,qi,ci⟩)) = updD (updD D 29 (.i i)) 30 (.b true)):=hide (by rw [hnm]; rfl)
 have n0:((strOfNums nm).toList == [97,120,105,115]) = false:=lit_no8 (uh HN) [97,120,105,115] rfl _ rfl (by rw [hnm]; decide)
 have n1:((strOfNums nm).toList == [97,108,112,104,97]) = false:=lit_no8 (uh HN) [97,108,112,104,97] rfl _ rfl (by rw [hnm]; decide)
 have n2:((strOfNums nm).toList == [98,101,116,97]) = false:=lit_no8 (uh HN) [98,101,116,97] rfl _ rfl (by rw [hnm]; decide)
 have n3:((strOfNums nm).toList == [101,112,115,105,108,111,110]) = false:=lit_no8 (uh HN) [101,112,115,105,108,111,110] rfl _ rfl (by rw [hnm]; decide)
 have n4:((strOfNums nm).toList == [116,111]) = false:=lit_no8 (uh HN) [116,111] rfl _ rfl (by rw [hnm]; decide)
 have n5:((strOfNums nm).toList == [103,114,111,117,112]) = false:=lit_no8 (uh HN) [103,114,111,117,112] rfl _ rfl (by rw [hnm]; decide)
 have n6:((strOfNums nm).toList == [98,108,111,99,107,115,105,122,101]) = false:=lit_no8 (uh HN) [98,108,111,99,107,115,105,122,101] rfl _ rfl (by rw [hnm]; decide)
 have n7:((strOfNums nm).toList == [115,116,97,114,116]) = false:=lit_no8 (uh HN) [115,116,97,114,116] rfl _ rfl (by rw [hnm]; decide)
 have n8:((strOfNums nm).toList == [101,110,100]) = true:=lit_yes8 (uh HN) [101,110,100] rfl _ rfl hnm
 clear hnm HN H5
 obtain ⟨L,hL⟩:∃ L,atCells ⟨nm,kd,f,i,s,(t0,t1,t2,t3,t4),A,fl,qf,cf,is,qi,ci⟩ = L:=⟨_,rfl⟩
 rw [hL]
 obtain ⟨W,hW⟩:∃ W,W = ((w.alloc (.cells cs 35)).alloc (.cells L.toArray 45)).alloc (.cells zeroC 35):=⟨_,rfl⟩
 have ZW:W.heap.size = w.heap.size + 3:=by rw [hW]; simp
 have BW:Hid (Below w.heap.size w W):=hide (by rw [hW]; exact se_below)
 have G0:Hid (Box W w.heap.size cs 35):=hide (by rw [hW]; exact se_box)
 have A0:Hid (Box W (w.heap.size + 1) L.toArray 45):=hide (by rw [hW]; exact se_boxA)
 have R0:Hid (Box W (w.heap.size + 2) zeroC 35):=hide (by rw [hW]; exact se_boxR)
 have k0:W.cell? ⟨w.heap.size + 1,0,none⟩ = some (.string (strOfNums nm)):=by rw [(uh A0).cell,← hL]; rfl
 have k3:W.cell? ⟨w.heap.size + 1,3,none⟩ = some (.int .i64 i):=by rw [(uh A0).cell,← hL]; rfl
 obtain ⟨⟨v29,c29⟩,f29⟩:(∃ v,W.cell? ⟨w.heap.size,29,none⟩ = some v) ∧ W.frozen? ⟨w.heap.size,29,none⟩ = false:=⟨(uh G0).some8 (by rw [hs]; decide),(uh G0).frozen 29⟩
 obtain ⟨⟨v30,c30⟩,f30⟩:(∃ v,W.cell? ⟨w.heap.size,30,none⟩ = some v) ∧ W.frozen? ⟨w.heap.size,30,none⟩ = false:=⟨(uh G0).some8 (by rw [hs]; decide),(uh G0).frozen 30⟩
 have hg:w.heap.size < W.heap.size:=by omega
 have CS:=hide (((uh G0).same 29 (.int .i64 i)).same 30 (.bool true))
 have R1:Hid (Box ((W.setCell ⟨w.heap.size,29,none⟩ (.int .i64 i)).setCell ⟨w.heap.size,30,none⟩ (.bool true)) (w.heap.size + 2) zeroC 35):=hide (((uh R0).other (by omega) 29 (.int .i64 i)).other (by omega) 30 (.bool true))
 have IN:=hide (((uh HC).setI 29 i w3 (by decide) rfl).setB 30 true (by decide) rfl)
 have BV:Hid (Below w.heap.size w ((W.setCell ⟨w.heap.size,29,none⟩ (.int .i64 i)).setCell ⟨w.heap.size,30,none⟩ (.bool true))):=hide (Below.setCell (Below.setCell (uh BW) (Nat.le_refl _) _) (Nat.le_refl _) _)
 clear hL A0
 go_enter Try.func22,Try.ntmps22
 unfold zeroC at hW
 go_wp2_with (first | (rw [← hW]; clear hW) | (refine wpList_load8 rfl _ rfl rfl (uh CS) (uh IN).1 ?_) | (refine wpList_store8 rfl _ _ rfl rfl rfl (uh R1) (uh IN).1 rfl (SeIn.ones (uh IN)) ?_; intro w5 b5 s5 _; have B5:=hide b5; have S5:=hide s5; clear b5 s5))
 have BT:Hid (Below w.heap.size w w5):=hide (bl_tr7 (uh BV) (bl_mono7 (uh S5).1 (by omega)))
 rw [uh HF]
 refine bodyPost_ret (results_se1 rfl rfl (uh B5) (uh IN).1) rfl ⟨_,rfl,(uh IN).below (uh BT),uh BT,?_⟩
 exact fun OK h1 h2 => ((h1.set (fun b o n c e _ => by cases e)).set (fun b o n c e _ => by cases e))
theorem rset8_mode (op:Int) (cs:Array Value) (D:SeD) (a:AtA) (B B':Nat) (w:World) (hc:SeV B w cs D) (hB:B ≤ w.heap.size) (h:AtIn B' w a) (ht:okT8 a.T) (hm:smallA a) (hnm:a.nm = [109,111,100,101]) :
  Calls Try.prog 22 #[.int .i64 op,.agg cs,.agg (atCells a).toArray] w fun e w' => ∃ c2,e = .returned (.agg c2) ∧ SeV B w' c2 (updL D (setL op a.d)) ∧ Below w.heap.size w w' ∧ ∀ OK:Nat → Prop,InB OK cs → (∀ b,w.heap.size ≤ b → OK b) → InB OK c2:=by
 have HC:=hide hc
 have hs:cs.size = 36:=hc.1
 have HN:=hide h.1
 have H5:=hide h.2.2.2.2.1
 have w2:=h.2.2.1
 have w3:=h.2.2.2.1
 clear hc h hB ht hm
 obtain ⟨nm,kd,f,i,s,⟨t0,t1,t2,t3,t4⟩,A,fl,qf,cf,is,qi,ci⟩:=a
 simp only at HN H5 w2 w3 hnm
 have HF:Hid (updL D (setL op (AtA.d ⟨nm,kd,f,i,s,(t0,t1,t2,t3,t4),A,fl,qf,cf,is,qi,ci⟩)) = updD D 16 (.i (modeR op nm s))):=hide (by subst hnm; rfl)
 have n0:((strOfNums nm).toList == [97,120,105,115]) = false:=lit_no8 (uh HN) [97,120,105,115] rfl _ rfl (by rw [hnm]; decide)
 have n1:((strOfNums nm).toList == [97,108,112,104,97]) = false:=lit_no8 (uh HN) [97,108,112,104,97] rfl _ rfl (by rw [hnm]; decide)
 have n2:((strOfNums nm).toList == [98,101,116,97]) = false:=lit_no8 (uh HN) [98,101,116,97] rfl _ rfl (by rw [hnm]; decide)
 have n3:((strOfNums nm).toList == [101,112,115,105,108,111,110]) = false:=lit_no8 (uh HN) [101,112,115,105,108,111,110] rfl _ rfl (by rw [hnm]; decide)
 have n4:((strOfNums nm).toList == [116,111]) = false:=lit_no8 (uh HN) [116,111] rfl _ rfl (by rw [hnm]; decide)
 have n5:((strOfNums nm).toList == [103,114,111,117,112]) = false:=lit_no8 (uh HN) [103,114,111,117,112] rfl _ rfl (by rw [hnm]; decide)
 have n6:((strOfNums nm).toList == [98,108,111,99,107,115,105,122,101]) = false:=lit_no8 (uh HN) [98,108,111,99,107,115,105,122,101] rfl _ rfl (by rw [hnm]; decide)
 have n7:((strOfNums nm).toList == [115,116,97,114,116]) = false:=lit_no8 (uh HN) [115,116,97,114,116] rfl _ rfl (by rw [hnm]; decide)
 have n8:((strOfNums nm).toList == [101,110,100]) = false:=lit_no8 (uh HN) [101,110,100] rfl _ rfl (by rw [hnm]; decide)
 have n9:((strOfNums nm).toList == [109,111,100,101]) = true:=lit_yes8 (uh HN) [109,111,100,101] rfl _ rfl hnm
 have CM:=hide (fun v => rmode8_any op nm s v (uh HN) (uh H5))
 have MW:=mode_wf op nm s
 obtain ⟨M,hM⟩:∃ M,modeR op nm s = M:=⟨_,rfl⟩
 rw [hM] at CM MW HF
 unfold strV at CM
 clear hM
 clear hnm HN H5
 obtain ⟨L,hL⟩:∃ L,atCells ⟨nm,kd,f,i,s,(t0,t1,t2,t3,t4),A,fl,qf,cf,is,qi,ci⟩ = L:=⟨_,rfl⟩
 rw [hL]
 obtain ⟨W,hW⟩:∃ W,W = ((w.alloc (.cells cs 35)).alloc (.cells L.toArray 45)).alloc (.cells zeroC 35):=⟨_,rfl⟩
 have ZW:W.heap.size = w.heap.size + 3:=by rw [hW]; simp
 have BW:Hid (Below w.heap.size w W):=hide (by rw [hW]; exact se_below)
 have G0:Hid (Box W w.heap.size cs 35):=hide (by rw [hW]; exact se_box)
 have A0:Hid (Box W (w.heap.size + 1) L.toArray 45):=hide (by rw [hW]; exact se_boxA)
 have R0:Hid (Box W (w.heap.size + 2) zeroC 35):=hide (by rw [hW]; exact se_boxR)
 have k0:W.cell? ⟨w.heap.size + 1,0,none⟩ = some (.string (strOfNums nm)):=by rw [(uh A0).cell,← hL]; rfl
 have k4:W.cell? ⟨w.heap.size + 1,4,none⟩ = some (.string (strOfNums s)):=by rw [(uh A0).cell,← hL]; rfl
 obtain ⟨⟨v16,c16⟩,f16⟩:(∃ v,W.cell? ⟨w.heap.size,16,none⟩ = some v) ∧ W.frozen? ⟨w.heap.size,16,none⟩ = false:=⟨(uh G0).some8 (by rw [hs]; decide),(uh G0).frozen 16⟩
 have hg:w.heap.size < W.heap.size:=by omega
 have CS:=hide ((uh G0).same 16 (.int .i64 M))
 have R1:Hid (Box (W.setCell ⟨w.heap.size,16,none⟩ (.int .i64 M)) (w.heap.size + 2) zeroC 35):=hide ((uh R0).other (by omega) 16 (.int .i64 M))
 have IN:=hide ((uh HC).setI 16 M MW (by decide) rfl)
 have BV:Hid (Below w.heap.size w (W.setCell ⟨w.heap.size,16,none⟩ (.int .i64 M))):=hide (Below.setCell (uh BW) (Nat.le_refl _) _)
 clear hL A0
 go_enter Try.func22,Try.ntmps22
 unfold zeroC at hW
 go_wp2_with (rw [← hW]; clear hW)
 refine (uh CM _).mono ?_
 rintro e v ⟨rfl,hv⟩
 replace hv:=hv.symm
 subst hv
 clear CM
 go_wp2_with (first | (rw [← hW]; clear hW) | (refine wpList_load8 rfl _ rfl rfl (uh CS) (uh IN).1 ?_) | (refine wpList_store8 rfl _ _ rfl rfl rfl (uh R1) (uh IN).1 rfl (SeIn.ones (uh IN)) ?_; intro w5 b5 s5 _; have B5:=hide b5; have S5:=hide s5; clear b5 s5))
 have BT:Hid (Below w.heap.size w w5):=hide (bl_tr7 (uh BV) (bl_mono7 (uh S5).1 (by omega)))
 rw [uh HF]
 refine bodyPost_ret (results_se1 rfl rfl (uh B5) (uh IN).1) rfl ⟨_,rfl,(uh IN).below (uh BT),uh BT,?_⟩
 exact fun OK h1 h2 => (h1.set (fun b o n c e _ => by cases e))
theorem rset8_reduction (op:Int) (cs:Array Value) (D:SeD) (a:AtA) (B B':Nat) (w:World) (hc:SeV B w cs D) (hB:B ≤ w.heap.size) (h:AtIn B' w a) (ht:okT8 a.T) (hm:smallA a) (hnm:a.nm = [114,101,100,117,99,116,105,111,110]) :
  Calls Try.prog 22 #[.int .i64 op,.agg cs,.agg (atCells a).toArray] w fun e w' => ∃ c2,e = .returned (.agg c2) ∧ SeV B w' c2 (updL D (setL op a.d)) ∧ Below w.heap.size w w' ∧ ∀ OK:Nat → Prop,InB OK cs → (∀ b,w.heap.size ≤ b → OK b) → InB OK c2:=by
 have HC:=hide hc
 have hs:cs.size = 36:=hc.1
 have HN:=hide h.1
 have H5:=hide h.2.2.2.2.1
 have w2:=h.2.2.1
 have w3:=h.2.2.2.1
 clear hc h hB ht hm
 obtain ⟨nm,kd,f,i,s,⟨t0,t1,t2,t3,t4⟩,A,fl,qf,cf,is,qi,ci⟩:=a
 simp only at HN H5 w2 w3 hnm
 have HF:Hid (updL D (setL op (AtA.d ⟨nm,kd,f,i,s,(t0,t1,t2,t3,t4),A,fl,qf,cf,is,qi,ci⟩)) = updD D 16 (.i (modeR op nm s))):=hide (by subst hnm; rfl)
 have n0:((strOfNums nm).toList == [97,120,105,115]) = false:=lit_no8 (uh HN) [97,120,105,115] rfl _ rfl (by rw [hnm]; decide)
 have n1:((strOfNums nm).toList == [97,108,112,104,97]) = false:=lit_no8 (uh HN) [97,108,112,104,97] rfl _ rfl (by rw [hnm]; decide)
 have n2:((strOfNums nm).toList == [98,101,116,97]) = false:=lit_no8 (uh HN) [98,101,116,97] rfl _ rfl (by rw [hnm]; decide)
 have n3:((strOfNums nm).toList == [101,112,115,105,108,111,110]) = false:=lit_no8 (uh HN) [101,112,115,105,108,111,110] rfl _ rfl (by rw [hnm]; decide)
 have n4:((strOfNums nm).toList == [116,111]) = false:=lit_no8 (uh HN) [116,111] rfl _ rfl (by rw [hnm]; decide)
 have n5:((strOfNums nm).toList == [103,114,111,117,112]) = false:=lit_no8 (uh HN) [103,114,111,117,112] rfl _ rfl (by rw [hnm]; decide)
 have n6:((strOfNums nm).toList == [98,108,111,99,107,115,105,122,101]) = false:=lit_no8 (uh HN) [98,108,111,99,107,115,105,122,101] rfl _ rfl (by rw [hnm]; decide)
 have n7:((strOfNums nm).toList == [115,116,97,114,116]) = false:=lit_no8 (uh HN) [115,116,97,114,116] rfl _ rfl (by rw [hnm]; decide)
 have n8:((strOfNums nm).toList == [101,110,100]) = false:=lit_no8 (uh HN) [101,110,100] rfl _ rfl (by rw [hnm]; decide)
 have n9:((strOfNums nm).toList == [109,111,100,101]) = false:=lit_no8 (uh HN) [109,111,100,101] rfl _ rfl (by rw [hnm]; decide)
 have n10:((strOfNums nm).toList == [114,101,100,117,99,116,105,111,110]) = true:=lit_yes8 (uh HN) [114,101,100,117,99,116,105,111,110] rfl _ rfl hnm
 have CM:=hide (fun v => rmode8_any op nm s v (uh HN) (uh H5))
 have MW:=mode_wf op nm s
 obtain ⟨M,hM⟩:∃ M,modeR op nm s = M:=⟨_,rfl⟩
 rw [hM] at CM MW HF
 unfold strV at CM
 clear hM
 clear hnm HN H5
 obtain ⟨L,hL⟩:∃ L,atCells ⟨nm,kd,f,i,s,(t0,t1,t2,t3,t4),A,fl,qf,cf,is,qi,ci⟩ = L:=⟨_,rfl⟩
 rw [hL]
 obtain ⟨W,hW⟩:∃ W,W = ((w.alloc (.cells cs 35)).alloc (.cells L.toArray 45)).alloc (.cells zeroC 35):=⟨_,rfl⟩
 have ZW:W.heap.size = w.heap.size + 3:=by rw [hW]; simp
 have BW:Hid (Below w.heap.size w W):=hide (by rw [hW]; exact se_below)
 have G0:Hid (Box W w.heap.size cs 35):=hide (by rw [hW]; exact se_box)
 have A0:Hid (Box W (w.heap.size + 1) L.toArray 45):=hide (by rw [hW]; exact se_boxA)
 have R0:Hid (Box W (w.heap.size + 2) zeroC 35):=hide (by rw [hW]; exact se_boxR)
 have k0:W.cell? ⟨w.heap.size + 1,0,none⟩ = some (.string (strOfNums nm)):=by rw [(uh A0).cell,← hL]; rfl
 have k4:W.cell? ⟨w.heap.size + 1,4,none⟩ = some (.string (strOfNums s)):=by rw [(uh A0).cell,← hL]; rfl
 obtain ⟨⟨v16,c16⟩,f16⟩:(∃ v,W.cell? ⟨w.heap.size,16,none⟩ = some v) ∧ W.frozen? ⟨w.heap.size,16,none⟩ = false:=⟨(uh G0).some8 (by rw [hs]; decide),(uh G0).frozen 16⟩
 have hg:w.heap.size < W.heap.size:=by omega
 have CS:=hide ((uh G0).same 16 (.int .i64 M))
 have R1:Hid (Box (W.setCell ⟨w.heap.size,16,none⟩ (.int .i64 M)) (w.heap.size + 2) zeroC 35):=hide ((uh R0).other (by omega) 16 (.int .i64 M))
 have IN:=hide ((uh HC).setI 16 M MW (by decide) rfl)
 have BV:Hid (Below w.heap.size w (W.setCell ⟨w.heap.size,16,none⟩ (.int .i64 M))):=hide (Below.setCell (uh BW) (Nat.le_refl _) _)
 clear hL A0
 go_enter Try.func22,Try.ntmps22
 unfold zeroC at hW
 go_wp2_with (rw [← hW]; clear hW)
 refine (uh CM _).mono ?_
 rintro e v ⟨rfl,hv⟩
 replace hv:=hv.symm
 subst hv
 clear CM
 go_wp2_with (first | (rw [← hW]; clear hW) | (refine wpList_load8 rfl _ rfl rfl (uh CS) (uh IN).1 ?_) | (refine wpList_store8 rfl _ _ rfl rfl rfl (uh R1) (uh IN).1 rfl (SeIn.ones (uh IN)) ?_; intro w5 b5 s5 _; have B5:=hide b5; have S5:=hide s5; clear b5 s5))
 have BT:Hid (Below w.heap.size w w5):=hide (bl_tr7 (uh BV) (bl_mono7 (uh S5).1 (by omega)))
 rw [uh HF]
 refine bodyPost_ret (results_se1 rfl rfl (uh B5) (uh IN).1) rfl ⟨_,rfl,(uh IN).below (uh BT),uh BT,?_⟩
 exact fun OK h1 h2 => (h1.set (fun b o n c e _ => by cases e))
theorem rset8_auto_pad (op:Int) (cs:Array Value) (D:SeD) (a:AtA) (B B':Nat) (w:World) (hc:SeV B w cs D) (hB:B ≤ w.heap.size) (h:AtIn B' w a) (ht:okT8 a.T) (hm:smallA a) (hnm:a.nm = [97,117,116,111,95,112,97,100]) :
  Calls Try.prog 22 #[.int .i64 op,.agg cs,.agg (atCells a).toArray] w fun e w' => ∃ c2,e = .returned (.agg c2) ∧ SeV B w' c2 (updL D (setL op a.d)) ∧ Below w.heap.size w w' ∧ ∀ OK:Nat → Prop,InB OK cs → (∀ b,w.heap.size ≤ b → OK b) → InB OK c2:=by
 have HC:=hide hc
 have hs:cs.size = 36:=hc.1
 have HN:=hide h.1
 have H5:=hide h.2.2.2.2.1
 have w2:=h.2.2.1
 have w3:=h.2.2.2.1
 clear hc h hB ht hm
 obtain ⟨nm,kd,f,i,s,⟨t0,t1,t2,t3,t4⟩,A,fl,qf,cf,is,qi,ci⟩:=a
 simp only at HN H5 w2 w3 hnm
 have HF:Hid (updL D (setL op (AtA.d ⟨nm,kd,f,i,s,(t0,t1,t2,t3,t4),A,fl,qf,cf,is,qi,ci⟩)) = updD D 24 (.i (modeR op nm s))):=hide (by subst hnm; rfl)
 have n0:((strOfNums nm).toList == [97,120,105,115]) = false:=lit_no8 (uh HN) [97,120,105,115] rfl _ rfl (by rw [hnm]; decide)
 have n1:((strOfNums nm).toList == [97,108,112,104,97]) = false:=lit_no8 (uh HN) [97,108,112,104,97] rfl _ rfl (by rw [hnm]; decide)
 have n2:((strOfNums nm).toList == [98,101,116,97]) = false:=lit_no8 (uh HN) [98,101,116,97] rfl _ rfl (by rw [hnm]; decide)
 have n3:((strOfNums nm).toList == [101,112,115,105,108,111,110]) = false:=lit_no8 (uh HN) [101,112,115,105,108,111,110] rfl _ rfl (by rw [hnm]; decide)
 have n4:((strOfNums nm).toList == [116,111]) = false:=lit_no8 (uh HN) [116,111] rfl _ rfl (by rw [hnm]; decide)
 have n5:((strOfNums nm).toList == [103,114,111,117,112]) = false:=lit_no8 (uh HN) [103,114,111,117,112] rfl _ rfl (by rw [hnm]; decide)
 have n6:((strOfNums nm).toList == [98,108,111,99,107,115,105,122,101]) = false:=lit_no8 (uh HN) [98,108,111,99,107,115,105,122,101] rfl _ rfl (by rw [hnm]; decide)
 have n7:((strOfNums nm).toList == [115,116,97,114,116]) = false:=lit_no8 (uh HN) [115,116,97,114,116] rfl _ rfl (by rw [hnm]; decide)
 have n8:((strOfNums nm).toList == [101,110,100]) = false:=lit_no8 (uh HN) [101,110,100] rfl _ rfl (by rw [hnm]; decide)
 have n9:((strOfNums nm).toList == [109,111,100,101]) = false:=lit_no8 (uh HN) [109,111,100,101] rfl _ rfl (by rw [hnm]; decide)
 have n10:((strOfNums nm).toList == [114,101,100,117,99,116,105,111,110]) = false:=lit_no8 (uh HN) [114,101,100,117,99,116,105,111,110] rfl _ rfl (by rw [hnm]; decide)
 have n11:((strOfNums nm).toList == [97,117,116,111,95,112,97,100]) = true:=lit_yes8 (uh HN) [97,117,116,111,95,112,97,100] rfl _ rfl hnm
 have CM:=hide (fun v => rmode8_any op nm s v (uh HN) (uh H5))
 have MW:=mode_wf op nm s
 obtain ⟨M,hM⟩:∃ M,modeR op nm s = M:=⟨_,rfl⟩
 rw [hM] at CM MW HF
 unfold strV at CM
 clear hM
 clear hnm HN H5
 obtain ⟨L,hL⟩:∃ L,atCells ⟨nm,kd,f,i,s,(t0,t1,t2,t3,t4),A,fl,qf,cf,is,qi,ci⟩ = L:=⟨_,rfl⟩
 rw [hL]
 obtain ⟨W,hW⟩:∃ W,W = ((w.alloc (.cells cs 35)).alloc (.cells L.toArray 45)).alloc (.cells zeroC 35):=⟨_,rfl⟩
 have ZW:W.heap.size = w.heap.size + 3:=by rw [hW]; simp
 have BW:Hid (Below w.heap.size w W):=hide (by rw [hW]; exact se_below)
 have G0:Hid (Box W w.heap.size cs 35):=hide (by rw [hW]; exact se_box)
 have A0:Hid (Box W (w.heap.size + 1) L.toArray 45):=hide (by rw [hW]; exact se_boxA)
 have R0:Hid (Box W (w.heap.size + 2) zeroC 35):=hide (by rw [hW]; exact se_boxR)
 have k0:W.cell? ⟨w.heap.size + 1,0,none⟩ = some (.string (strOfNums nm)):=by rw [(uh A0).cell,← hL]; rfl
 have k4:W.cell? ⟨w.heap.size + 1,4,none⟩ = some (.string (strOfNums s)):=by rw [(uh A0).cell,← hL]; rfl
 obtain ⟨⟨v24,c24⟩,f24⟩:(∃ v,W.cell? ⟨w.heap.size,24,none⟩ = some v) ∧ W.frozen? ⟨w.heap.size,24,none⟩ = false:=⟨(uh G0).some8 (by rw [hs]; decide),(uh G0).frozen 24⟩
 have hg:w.heap.size < W.heap.size:=by omega
 have CS:=hide ((uh G0).same 24 (.int .i64 M))
 have R1:Hid (Box (W.setCell ⟨w.heap.size,24,none⟩ (.int .i64 M)) (w.heap.size + 2) zeroC 35):=hide ((uh R0).other (by omega) 24 (.int .i64 M))
 have IN:=hide ((uh HC).setI 24 M MW (by decide) rfl)
 have BV:Hid (Below w.heap.size w (W.setCell ⟨w.heap.size,24,none⟩ (.int .i64 M))):=hide (Below.setCell (uh BW) (Nat.le_refl _) _)
 clear hL A0
 go_enter Try.func22,Try.ntmps22
 unfold zeroC at hW
 go_wp2_with (rw [← hW]; clear hW)
 refine (uh CM _).mono ?_
 rintro e v ⟨rfl,hv⟩
 replace hv:=hv.symm
 subst hv
 clear CM
 go_wp2_with (first | (rw [← hW]; clear hW) | (refine wpList_load8 rfl _ rfl rfl (uh CS) (uh IN).1 ?_) | (refine wpList_store8 rfl _ _ rfl rfl rfl (uh R1) (uh IN).1 rfl (SeIn.ones (uh IN)) ?_; intro w5 b5 s5 _; have B5:=hide b5; have S5:=hide s5; clear b5 s5))
 have BT:Hid (Below w.heap.size w w5):=hide (bl_tr7 (uh BV) (bl_mono7 (uh S5).1 (by omega)))
 rw [uh HF]
 refine bodyPost_ret (results_se1 rfl rfl (uh B5) (uh IN).1) rfl ⟨_,rfl,(uh IN).below (uh BT),uh BT,?_⟩
 exact fun OK h1 h2 => (h1.set (fun b o n c e _ => by cases e))
theorem rset8_no (op:Int) (cs:Array Value) (D:SeD) (a:AtA) (B B':Nat) (w:World) (hc:SeV B w cs D) (hB:B ≤ w.heap.size) (h:AtIn B' w a) (ht:okT8 a.T) (hm:smallA a) (hnm:¬ a.nm = [97,120,105,115] ∧ ¬ a.nm = [97,108,112,104,97] ∧ ¬ a.nm = [98,101,116,97] ∧ ¬ a.nm = [101,112,115,105,108,111,110] ∧ ¬ a.nm = [116,111] ∧ ¬ a.nm = [103,114,111,117,112] ∧ ¬ a.nm = [98,108,111,99,107,115,105,122,101] ∧ ¬ a.nm = [115,116,97,114,116] ∧ ¬ a.nm = [101,110,100] ∧ ¬ a.nm = [109,111,100,101] ∧ ¬ a.nm = [114,101,100,117,99,116,105,111,110] ∧ ¬ a.nm = [97,117,116,111,95,112,97,100]) :
  Calls Try.prog 22 #[.int .i64 op,.agg cs,.agg (atCells a).toArray] w fun e w' => ∃ c2,e = .returned (.agg c2) ∧ SeV B w' c2 (updL D (setL op a.d)) ∧ Below w.heap.size w w' ∧ ∀ OK:Nat → Prop,InB OK cs → (∀ b,w.heap.size ≤ b → OK b) → InB OK c2:=by
 obtain ⟨d0,d1,d2,d3,d4,d5,d6,d7,d8,d9,d10,d11⟩:=hnm
 have HF:Hid (updL D (setL op a.d) = updL (updL D (flagL a.d)) (listL a.d)):=hide (by
  have e:setL op a.d = flagL a.d ++ listL a.d:=by
   unfold setL
   rw [if_neg (show ¬ a.d.1 = _ from d0),if_neg (show ¬ a.d.1 = _ from d1),if_neg (show ¬ a.d.1 = _ from d2),if_neg (show ¬ a.d.1 = _ from d3),if_neg (show ¬ a.d.1 = _ from d4),if_neg (show ¬ a.d.1 = _ from d5),if_neg (show ¬ a.d.1 = _ from d6),if_neg (show ¬ a.d.1 = _ from d7),if_neg (show ¬ a.d.1 = _ from d8),if_neg (show ¬ a.d.1 = _ from d9),if_neg (show ¬ a.d.1 = _ from d10),if_neg (show ¬ a.d.1 = _ from d11)]
  rw [e]
  unfold updL
  rw [List.foldl_append])
 have HN:=hide h.1
 have n0:((strOfNums a.nm).toList == [97,120,105,115]) = false:=lit_no8 (uh HN) [97,120,105,115] rfl _ rfl d0
 have n1:((strOfNums a.nm).toList == [97,108,112,104,97]) = false:=lit_no8 (uh HN) [97,108,112,104,97] rfl _ rfl d1
 have n2:((strOfNums a.nm).toList == [98,101,116,97]) = false:=lit_no8 (uh HN) [98,101,116,97] rfl _ rfl d2
 have n3:((strOfNums a.nm).toList == [101,112,115,105,108,111,110]) = false:=lit_no8 (uh HN) [101,112,115,105,108,111,110] rfl _ rfl d3
 have n4:((strOfNums a.nm).toList == [116,111]) = false:=lit_no8 (uh HN) [116,111] rfl _ rfl d4
 have n5:((strOfNums a.nm).toList == [103,114,111,117,112]) = false:=lit_no8 (uh HN) [103,114,111,117,112] rfl _ rfl d5
 have n6:((strOfNums a.nm).toList == [98,108,111,99,107,115,105,122,101]) = false:=lit_no8 (uh HN) [98,108,111,99,107,115,105,122,101] rfl _ rfl d6
 have n7:((strOfNums a.nm).toList == [115,116,97,114,116]) = false:=lit_no8 (uh HN) [115,116,97,114,116] rfl _ rfl d7
 have n8:((strOfNums a.nm).toList == [101,110,100]) = false:=lit_no8 (uh HN) [101,110,100] rfl _ rfl d8
 have n9:((strOfNums a.nm).toList == [109,111,100,101]) = false:=lit_no8 (uh HN) [109,111,100,101] rfl _ rfl d9
 have n10:((strOfNums a.nm).toList == [114,101,100,117,99,116,105,111,110]) = false:=lit_no8 (uh HN) [114,101,100,117,99,116,105,111,110] rfl _ rfl d10
 have n11:((strOfNums a.nm).toList == [97,117,116,111,95,112,97,100]) = false:=lit_no8 (uh HN) [97,117,116,111,95,112,97,100] rfl _ rfl d11
 clear HN d0 d1 d2 d3 d4 d5 d6 d7 d8 d9 d10 d11
 have HC:=hide hc
 have HQ:=hide (SeIn.inB hc)
 have hs:cs.size = 36:=hc.1
 have HB:=hide hB
 have HA:=hide h
 have HT:=hide ht
 have HM:=hide hm
 clear hc h hB ht hm
 obtain ⟨L,hL⟩:∃ L,atCells a = L:=⟨_,rfl⟩
 obtain ⟨W,hW⟩:∃ W,W = ((w.alloc (.cells cs 35)).alloc (.cells L.toArray 45)).alloc (.cells zeroC 35):=⟨_,rfl⟩
 have ZW:W.heap.size = w.heap.size + 3:=by rw [hW]; simp
 have BW:Hid (Below w.heap.size w W):=hide (by rw [hW]; exact se_below)
 have G0:Hid (Box W w.heap.size cs 35):=hide (by rw [hW]; exact se_box)
 have A0:Hid (Box W (w.heap.size + 1) L.toArray 45):=hide (by rw [hW]; exact se_boxA)
 have R0:Hid (Box W (w.heap.size + 2) zeroC 35):=hide (by rw [hW]; exact se_boxR)
 have k0:W.cell? ⟨w.heap.size + 1,0,none⟩ = some (.string (strOfNums a.nm)):=by rw [(uh A0).cell,← hL]; rfl
 have LS:L.toArray.size = 12:=by rw [← hL]; exact atWd.2.1 a
 have CF:=hide (fun v (hv:Below W.heap.size W v) => rflags8_any cs D a B B' v ((uh HC).below (bl_tr (uh BW) hv)) ((uh HA).below8 (bl_tr (uh BW) hv)))
 have CL:=hide (fun c1 v (hv:Below W.heap.size W v) (h1:SeV B v c1 (updL D (flagL a.d))) => rlists8_any c1 (updL D (flagL a.d)) a B B' v h1 (by have:=hv.size; have:=uh HB; omega) ((uh HA).below8 (bl_tr (uh BW) hv)) (uh HT) (uh HM))
 rw [hL] at CF CL ⊢
 clear hL
 have LL:L.length = 12:=by simpa using LS
 go_enter Try.func22,Try.ntmps22
 unfold zeroC at hW
 go_wp2_with (rw [← hW]; clear hW)
 refine wp_region_held_drew (S:=fun v => Box v (w.heap.size + 1) L.toArray 45) (by kernel_rfl) ((uh A0).below (bdrew8 _)) (fun hHeld => ?_)
 refine wpAnyH_take (i:=1) (oi:={ dst:=some 10,op:=_,type:=_,pos:=_,after:=_,guard:=_ }) (v:=.agg L.toArray) rfl (by kernel_rfl) (by kernel_rfl) (by kernel_rfl) (fun _ _ _ h => h) (yields_loadG aggAttr (by rfl) _ rfl rfl LL (fun v hv => by have:=At8.box hv; simpa using this)) (by assumption) ?_
 (try simp only [Act.put,List.setIfInBounds_toArray,List.set_cons_zero,List.set_cons_succ])
 refine wpAnyH_take (i:=3) (oi:={ dst:=some 12,op:=_,type:=_,pos:=_,after:=_,guard:=_ }) (v:=.agg L.toArray) rfl (by kernel_rfl) (by kernel_rfl) (by kernel_rfl) (fun _ _ _ h => h) (yields_loadG aggAttr (by rfl) _ rfl rfl LL (fun v hv => by have:=At8.box hv; simpa using this)) (by assumption) ?_
 (try simp only [Act.put,List.setIfInBounds_toArray,List.set_cons_zero,List.set_cons_succ])
 refine wpAnyH_ready (rs:=[0]) (by kernel_rfl) (by simp) ?_
 refine AllReadyH.cons (o:={ dst:=some 9,op:=_,type:=_,pos:=_,after:=_,guard:=_ }) rfl (fun K hK => ?_) AllReadyH.nil
 rw [if_pos (by rfl)]
 refine wp_load8w _ rfl rfl ((uh G0).below (bdrew8 _)) hs ?_
 refine hK.out _ _ hHeld (fun hHeldN => ?_)
 clear hK K hHeld
 have hHeld:=hHeldN
 clear hHeldN
 (try simp only [Act.put,List.setIfInBounds_toArray,List.set_cons_zero,List.set_cons_succ])
 refine wpAnyH_ready (rs:=[2]) (by kernel_rfl) (by simp) ?_
 refine AllReadyH.cons (o:={ dst:=some 11,op:=_,type:=_,pos:=_,after:=_,guard:=_ }) rfl (fun K hK => ?_) AllReadyH.nil
 go_simp
 refine (uh CF _ (bdrew8 _)).mono ?_
 rintro e w1 ⟨c1,rfl,hc1,hb1,hq1⟩
 have C1:=hide hc1
 have B1:=hide (bl_tr (bdrew8 W) hb1)
 have Q1:=hide hq1
 clear hc1 hb1 hq1
 refine hK.out _ _ ((uh A0).below (uh B1)) (fun hHeldN => ?_)
 clear hK K hHeld
 have hHeld:=hHeldN
 clear hHeldN
 (try simp only [Act.put,List.setIfInBounds_toArray,List.set_cons_zero,List.set_cons_succ])
 refine wpAnyH_ready (rs:=[4]) (by kernel_rfl) (by simp) ?_
 refine AllReadyH.cons (o:={ dst:=some 13,op:=_,type:=_,pos:=_,after:=_,guard:=_ }) rfl (fun K hK => ?_) AllReadyH.nil
 go_simp
 refine (uh CL c1 _ (uh B1) (uh C1)).mono ?_
 rintro e w2 ⟨c2,rfl,hc2,hb2,hq2⟩
 have C2:=hide hc2
 have B2:=hide (bl_tr (uh B1) hb2)
 have Q2:=hide hq2
 have BB:=hide hb2
 clear hc2 hb2 hq2
 refine hK.out _ _ ((uh A0).below (uh B2)) (fun hHeldN => ?_)
 clear hK K hHeld
 have hHeld:=hHeldN
 clear hHeldN
 (try simp only [Act.put,List.setIfInBounds_toArray,List.set_cons_zero,List.set_cons_succ])
 refine wpAnyH_ready (rs:=[5]) (by kernel_rfl) (by simp) ?_
 refine AllReadyH.cons (o:={ dst:=none,op:=_,type:=_,pos:=_,after:=_,guard:=_ }) rfl (fun K hK => ?_) AllReadyH.nil
 rw [if_pos (by rfl)]
 refine wp_store8 _ _ rfl rfl rfl ((uh G0).below (uh B2)) (uh C2).1 hs (SeIn.ones (uh C2)) ?_
 intro w3 b3 s3 z3
 have B3:=hide b3
 have S3:=hide s3
 have Z3:=hide z3
 clear b3 s3 z3
 refine hK.out _ _ ((uh S3).box ((uh A0).below (uh B2)) (by omega)) (fun hHeldN => ?_)
 clear hK K hHeld
 have hHeld:=hHeldN
 clear hHeldN
 (try simp only [Act.put,List.setIfInBounds_toArray,List.set_cons_zero,List.set_cons_succ])
 refine wpAnyH_done (by kernel_rfl) ?_ _
 have QW:=hide (fun (OK:Nat → Prop) (h1:InB OK cs) (h2:∀ b,W.heap.size ≤ b → OK b) => uh Q2 OK (uh Q1 OK h1) (fun b hb => h2 b (by have:=(uh B1).size; omega)))
 have IQ:=hide (uh QW (fun b => b < w.heap.size ∨ w.heap.size + 3 ≤ b) ((uh HQ).mono (fun b hb => .inl hb.2)) (fun b hb => .inr (by omega)))
 have ZB:Hid (W.heap.size ≤ w2.heap.size):=hide (uh B2).size
 have BV:Hid (Below w.heap.size w w3):=hide (bl_tr7 (bl_tr (uh BW) (uh B2)) (bl_mono7 (uh S3).1 (Nat.le_refl _)))
 have R1:Hid (Box w3 (w.heap.size + 2) zeroC 35):=hide ((uh S3).box ((uh R0).below (uh B2)) (by omega))
 have x3:=(uh B3).lt
 go_wp2_with (first | (refine wpList_load8 rfl _ rfl rfl (uh B3) (uh C2).1 ?_) | (refine wpList_store8 rfl _ _ rfl rfl rfl (uh R1) (uh C2).1 rfl (SeIn.ones (uh C2)) ?_; intro w5 b5 s5 z5; have B5:=hide b5; have S5:=hide s5; clear b5 s5 z5))
 have BT:Hid (Below w.heap.size w w5):=hide (bl_tr7 (uh BV) (bl_mono7 (uh S5).1 (by omega)))
 rw [uh HF]
 refine bodyPost_ret (results_se1 rfl rfl (uh B5) (uh C2).1) rfl ⟨_,rfl,?_,uh BT,?_⟩
 ·exact (uh C2).holdS (uh IQ) (Nat.le_trans (uh S3).1.size (uh S5).1.size) (fun k hk hl => ((uh S5).block (by omega) (Nat.lt_of_lt_of_le hl (uh S3).1.size)).trans ((uh S3).block (by omega) hl))
 ·exact fun OK h1 h2 => uh QW OK h1 (fun b hb => h2 b (by omega))
theorem rset8_any (op:Int) (cs:Array Value) (D:SeD) (a:AtA) (B B':Nat) (w:World) (hc:SeV B w cs D) (hB:B ≤ w.heap.size) (h:AtIn B' w a) (ht:okT8 a.T) (hm:smallA a) :
  Calls Try.prog 22 #[.int .i64 op,.agg cs,.agg (atCells a).toArray] w fun e w' => ∃ c2,e = .returned (.agg c2) ∧ SeV B w' c2 (updL D (setL op a.d)) ∧ Below w.heap.size w w' ∧ ∀ OK:Nat → Prop,InB OK cs → (∀ b,w.heap.size ≤ b → OK b) → InB OK c2:=by
 by_cases d0:a.nm = [97,120,105,115]
 ·exact rset8_axis op cs D a B B' w hc hB h ht hm d0
 by_cases d1:a.nm = [97,108,112,104,97]
 ·exact rset8_alpha op cs D a B B' w hc hB h ht hm d1
 by_cases d2:a.nm = [98,101,116,97]
 ·exact rset8_beta op cs D a B B' w hc hB h ht hm d2
 by_cases d3:a.nm = [101,112,115,105,108,111,110]
 ·exact rset8_epsilon op cs D a B B' w hc hB h ht hm d3
 by_cases d4:a.nm = [116,111]
 ·exact rset8_to op cs D a B B' w hc hB h ht hm d4
 by_cases d5:a.nm = [103,114,111,117,112]
 ·exact rset8_group op cs D a B B' w hc hB h ht hm d5
 by_cases d6:a.nm = [98,108,111,99,107,115,105,122,101]
 ·exact rset8_blocksize op cs D a B B' w hc hB h ht hm d6
 by_cases d7:a.nm = [115,116,97,114,116]
 ·exact rset8_start op cs D a B B' w hc hB h ht hm d7
 by_cases d8:a.nm = [101,110,100]
 ·exact rset8_end op cs D a B B' w hc hB h ht hm d8
 by_cases d9:a.nm = [109,111,100,101]
 ·exact rset8_mode op cs D a B B' w hc hB h ht hm d9
 by_cases d10:a.nm = [114,101,100,117,99,116,105,111,110]
 ·exact rset8_reduction op cs D a B B' w hc hB h ht hm d10
 by_cases d11:a.nm = [97,117,116,111,95,112,97,100]
 ·exact rset8_auto_pad op cs D a B B' w hc hB h ht hm d11
 exact rset8_no op cs D a B B' w hc hB h ht hm ⟨d0,d1,d2,d3,d4,d5,d6,d7,d8,d9,d10,d11⟩
end Go.Proofs.Ytnmciappielkcaa
