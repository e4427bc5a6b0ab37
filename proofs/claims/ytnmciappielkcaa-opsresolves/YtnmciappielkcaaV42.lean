import Derived.Test.YtnmciappielkcaaV30
import Derived.Test.YtnmciappielkcaaV37
set_option maxRecDepth 100000
set_option maxHeartbeats 8000000
namespace Go.Proofs.Ytnmciappielkcaa
open Go.RowKit
set_option linter.unusedVariables false
set_option linter.unusedSimpArgs false
def InB (OK:Nat → Prop) (cs:Array Value):Prop:=∀ k b o n c:Nat,cs[k]? = some (Value.slice (some ⟨b,o,none⟩) n c) → 0 < n → OK b
theorem InB.set {OK:Nat → Prop} {cs:Array Value} {k:Nat} {v:Value} (h:InB OK cs) (hv:∀ b o n c,v = Value.slice (some ⟨b,o,none⟩) n c → 0 < n → OK b):InB OK (cs.setIfInBounds k v):=by
 intro j b o n c e hp
 rw [Array.getElem?_setIfInBounds] at e
 split at e
 ·split at e
  ·exact hv b o n c (by injection e) hp
  ·cases e
 ·exact h j b o n c e hp
theorem InB.set5 {OK:Nat → Prop} {cs:Array Value} {v0 v1 v2 v3 v4:Value} (h:InB OK cs) (h0:∀ b o n c,v0 = Value.slice (some ⟨b,o,none⟩) n c → 0 < n → OK b) (h1:∀ b o n c,v1 = Value.slice (some ⟨b,o,none⟩) n c → 0 < n → OK b) (h2:∀ b o n c,v2 = Value.slice (some ⟨b,o,none⟩) n c → 0 < n → OK b) (h3:∀ b o n c,v3 = Value.slice (some ⟨b,o,none⟩) n c → 0 < n → OK b) (h4:∀ b o n c,v4 = Value.slice (some ⟨b,o,none⟩) n c → 0 < n → OK b):InB OK (set5 cs v0 v1 v2 v3 v4) :=
 ((((h.set h0).set h1).set h2).set h3).set h4
theorem InB.mono {OK OK':Nat → Prop} {cs:Array Value} (h:InB OK cs) (hm:∀ b,OK b → OK' b):InB OK' cs:=fun k b o n c e hp => hm b (h k b o n c e hp)
theorem OwL.inB {kd:IntKind} {B g:Nat} {w:World} {p:Option Addr} {c:Nat} {xs:List Int} (h:OwL kd B g w p c xs):∀ b o,p = some ⟨b,o,none⟩ → 0 < xs.length → B ≤ b ∧ b < w.heap.size:=fun b o e hp => by
 obtain ⟨b',o',e',hb,_⟩:=h.1.ls.lies hp
 have h2:=(h.2 b o e hp).1
 rw [e] at e'
 simp only [Option.some.injEq,Addr.mk.injEq] at e'
 obtain ⟨rfl,rfl,_⟩:=e'
 exact ⟨h2,hb⟩
theorem OwB.inB {B g:Nat} {w:World} {p:Option Addr} {c:Nat} {xs:List Bool} (h:OwB B g w p c xs):∀ b o,p = some ⟨b,o,none⟩ → 0 < xs.length → B ≤ b ∧ b < w.heap.size:=fun b o e hp => by
 obtain ⟨b',o',e',hb,_⟩:=h.1.lies hp
 have h2:=(h.2 b o e hp).1
 rw [e] at e'
 simp only [Option.some.injEq,Addr.mk.injEq] at e'
 obtain ⟨rfl,rfl,_⟩:=e'
 exact ⟨h2,hb⟩
theorem FIn.inB {B g:Nat} {w:World} {cs:Array Value} {k:Nat}:∀ {f:FV},kindF f ≠ 4 → FIn B g w cs k f → ∀ b o n c,cs[k]? = some (Value.slice (some ⟨b,o,none⟩) n c) → 0 < n → B ≤ b ∧ b < w.heap.size
 | ⟨0,_,_,_,_⟩,_,h,b,o,n,c,e,_ => by rw [h.1] at e; cases e
 | ⟨1,_,_,_,_⟩,_,h,b,o,n,c,e,_ => by rw [h.1] at e; cases e
 | ⟨2,_,_,_,_⟩,_,h,b,o,n,c,e,_ => by have h':cs[k]? = _:=h; rw [h'] at e; cases e
 | ⟨3,_,_,_,_⟩,_,⟨p,c',h1,h2⟩,b,o,n,c,e,hp => by
   rw [h1] at e
   simp only [Option.some.injEq,Value.slice.injEq] at e
   obtain ⟨e1,e2,_⟩:=e
   exact h2.inB b o e1 (by omega)
 | ⟨_ + 4,_,_,_,_⟩,h4,_,_,_,_,_,_,_ => absurd rfl h4
theorem FIn.inB4 {B g:Nat} {w:World} {cs:Array Value}:∀ {f:FV},kindF f = 4 → FIn B g w cs 31 f → ∀ j b o n c,31 ≤ j → j < 36 → cs[j]? = some (Value.slice (some ⟨b,o,none⟩) n c) → 0 < n → B ≤ b ∧ b < w.heap.size
 | ⟨0,_,_,_,_⟩,h,_,_,_,_,_,_,_,_,_,_ => by cases h
 | ⟨1,_,_,_,_⟩,h,_,_,_,_,_,_,_,_,_,_ => by cases h
 | ⟨2,_,_,_,_⟩,h,_,_,_,_,_,_,_,_,_,_ => by cases h
 | ⟨3,_,_,_,_⟩,h,_,_,_,_,_,_,_,_,_,_ => by cases h
 | ⟨_ + 4,_,_,_,_⟩,_,⟨A,⟨h0,h1,h2,h3,h4⟩,_,g1,g2,g3,g4⟩,j,b,o,n,c,hj,hk,e,hp => by
   have hc:j = 31 ∨ j = 32 ∨ j = 33 ∨ j = 34 ∨ j = 35:=by omega
   rcases hc with rfl | rfl | rfl | rfl | rfl
   ·rw [h0] at e; cases e
   ·rw [h1] at e
    simp only [Option.some.injEq,Value.slice.injEq] at e
    exact g1.inB b o e.1 (by omega)
   ·rw [h2] at e
    simp only [Option.some.injEq,Value.slice.injEq] at e
    exact g2.inB b o e.1 (by omega)
   ·rw [h3] at e
    simp only [Option.some.injEq,Value.slice.injEq] at e
    exact g3.inB b o e.1 (by omega)
   ·rw [h4] at e
    simp only [Option.some.injEq,Value.slice.injEq] at e
    exact g4.inB b o e.1 (by omega)
theorem SeIn.inB {B g:Nat} {w:World} {cs:Array Value} {D:SeD} (h:SeIn B g w cs D):InB (fun b => B ≤ b ∧ b < w.heap.size) cs:=by
 intro k b o n c e hp
 have hk:k < 36:=by
  rw [← h.1]
  refine Classical.byContradiction fun hn => ?_
  rw [Array.getElem?_eq_none (by omega)] at e
  cases e
 rcases Nat.lt_or_ge k 31 with hl | hl
 ·exact (h.2 k (by omega)).1.inB (by rw [(h.2 k (by omega)).2]; exact kind_30 k (by omega)) b o n c e hp
 ·exact FIn.inB4 (h.2 31 (by omega)).2 (h.2 31 (by omega)).1 k b o n c hl hk e hp
theorem Ls.holdS {α:Type} [Inhabited α] {f:α → Value} {OK:Nat → Prop} {w w':World} {p:Option Addr} {c:Nat} {xs:List α} (h:Ls f w p c xs) (hB:∀ b o,p = some ⟨b,o,none⟩ → 0 < xs.length → OK b) (hs:w.heap.size ≤ w'.heap.size) (hk:∀ k,OK k → k < w.heap.size → w'.heap[k]? = w.heap[k]?):Ls f w' p c xs:=by
 obtain ⟨h1,h2,h4,h5⟩:=h
 refine ⟨h1,h2,fun hp => ?_,h5⟩
 obtain ⟨b,o,e,g1,g2⟩:=h4 hp
 exact ⟨b,o,e,Nat.lt_of_lt_of_le g1 hs,fun i hi => (World.cell?_of_block (w:=w) (hk b (hB b o e hp) g1)).trans (g2 i hi)⟩
theorem OwL.holdS {kd:IntKind} {OK:Nat → Prop} {B g g':Nat} {w w':World} {p:Option Addr} {c:Nat} {xs:List Int} (h:OwL kd B g w p c xs) (hB:∀ b o,p = some ⟨b,o,none⟩ → 0 < xs.length → OK b) (hg:w'.heap.size ≤ g') (hs:w.heap.size ≤ w'.heap.size) (hk:∀ k,OK k → k < w.heap.size → w'.heap[k]? = w.heap[k]?):OwL kd B g' w' p c xs:=by
 refine ⟨(h.1.ls.holdS hB hs hk).ints h.1.2.2.1,fun b o e hp => ?_⟩
 obtain ⟨h1,h2,h3⟩:=h.2 b o e hp
 obtain ⟨b',o',e',hb,_⟩:=h.1.ls.lies hp
 have ho:=hB b o e hp
 rw [e] at e'
 simp only [Option.some.injEq,Addr.mk.injEq] at e'
 obtain ⟨rfl,rfl,_⟩:=e'
 exact ⟨h1,⟨by omega,by omega⟩,fun i hi => (World.frozen?_of_block (w:=w) (hk b ho hb)).trans (h3 i hi)⟩
theorem OwB.holdS {OK:Nat → Prop} {B g g':Nat} {w w':World} {p:Option Addr} {c:Nat} {xs:List Bool} (h:OwB B g w p c xs) (hB:∀ b o,p = some ⟨b,o,none⟩ → 0 < xs.length → OK b) (hg:w'.heap.size ≤ g') (hs:w.heap.size ≤ w'.heap.size) (hk:∀ k,OK k → k < w.heap.size → w'.heap[k]? = w.heap[k]?):OwB B g' w' p c xs:=by
 refine ⟨h.1.holdS hB hs hk,fun b o e hp => ?_⟩
 obtain ⟨h1,h2,h3⟩:=h.2 b o e hp
 obtain ⟨b',o',e',hb,_⟩:=h.1.lies hp
 have ho:=hB b o e hp
 rw [e] at e'
 simp only [Option.some.injEq,Addr.mk.injEq] at e'
 obtain ⟨rfl,rfl,_⟩:=e'
 exact ⟨h1,⟨by omega,by omega⟩,fun i hi => (World.frozen?_of_block (w:=w) (hk b ho hb)).trans (h3 i hi)⟩
theorem FIn.holdS {OK:Nat → Prop} {B g g':Nat} {w w':World} {cs:Array Value} {k:Nat} (ho:InB OK cs) (hg:w'.heap.size ≤ g') (hs:w.heap.size ≤ w'.heap.size) (hk:∀ k,OK k → k < w.heap.size → w'.heap[k]? = w.heap[k]?):∀ {f:FV},FIn B g w cs k f → FIn B g' w' cs k f
 | ⟨0,_,_,_,_⟩,h => h
 | ⟨1,_,_,_,_⟩,h => h
 | ⟨2,_,_,_,_⟩,h => h
 | ⟨3,_,_,xs,_⟩,⟨p,c,h1,h2⟩ => ⟨p,c,h1,h2.holdS (fun b o e hp => ho k b o xs.length c (by rw [h1,e]) hp) hg hs hk⟩
 | ⟨_ + 4,_,_,_,T⟩,⟨A,h1,h2⟩ => ⟨A,h1,h2.1,h2.2.1.holdS (fun b o e hp => ho (k + 1) b o T.2.1.length A.cd (by rw [h1.2.1,e]) hp) hg hs hk,h2.2.2.1.holdS (fun b o e hp => ho (k + 2) b o T.2.2.1.length A.cf (by rw [h1.2.2.1,e]) hp) hg hs hk,h2.2.2.2.1.holdS (fun b o e hp => ho (k + 3) b o T.2.2.2.1.length A.ci (by rw [h1.2.2.2.1,e]) hp) hg hs hk,h2.2.2.2.2.holdS (fun b o e hp => ho (k + 4) b o T.2.2.2.2.length A.cb (by rw [h1.2.2.2.2,e]) hp) hg hs hk⟩
theorem SeV.holdS {OK:Nat → Prop} {B:Nat} {w w':World} {cs:Array Value} {D:SeD} (h:SeV B w cs D) (ho:InB OK cs) (hs:w.heap.size ≤ w'.heap.size) (hk:∀ k,OK k → k < w.heap.size → w'.heap[k]? = w.heap[k]?):SeV B w' cs D:=⟨h.1,fun k hk2 => ⟨(h.2 k hk2).1.holdS ho (Nat.le_refl _) hs hk,(h.2 k hk2).2⟩⟩
theorem SeV.setB {B:Nat} {w:World} {cs:Array Value} {D:SeD} (h:SeV B w cs D) (k:Nat) (x:Bool) (hk:k ≤ 30) (hf:kindsK.getD k 0 = 2):SeV B w (cs.setIfInBounds k (.bool x)) (updD D k (.b x)) :=
 SeIn.set h hk (set_same (by rw [h.1]; omega) _) hf.symm
theorem SeV.setI {B:Nat} {w:World} {cs:Array Value} {D:SeD} (h:SeV B w cs D) (k:Nat) (x:Int) (hx:(Lit.int .i64 x).wf = true) (hk:k ≤ 30) (hf:kindsK.getD k 0 = 0):SeV B w (cs.setIfInBounds k (.int .i64 x)) (updD D k (.i x)) :=
 SeIn.set h hk ⟨set_same (by rw [h.1]; omega) _,hx⟩ hf.symm
theorem SeV.setU {B:Nat} {w:World} {cs:Array Value} {D:SeD} (h:SeV B w cs D) (k:Nat) (x:Int) (hx:(Lit.int .u32 x).wf = true) (hk:k ≤ 30) (hf:kindsK.getD k 0 = 1):SeV B w (cs.setIfInBounds k (.int .u32 x)) (updD D k (.u x)) :=
 SeIn.set h hk ⟨set_same (by rw [h.1]; omega) _,hx⟩ hf.symm
theorem SeV.setL {B g:Nat} {w:World} {cs:Array Value} {D:SeD} (h:SeV B w cs D) (k:Nat) (p:Option Addr) (c:Nat) (xs:List Int) (hx:OwL .i64 B g w p c xs) (hk:k ≤ 30) (hf:kindsK.getD k 0 = 3):SeV B w (cs.setIfInBounds k (.slice p xs.length c)) (updD D k (.l xs)) :=
 SeIn.set h hk ⟨p,c,set_same (by rw [h.1]; omega) _,hx.reg (Nat.le_refl _)⟩ hf.symm
theorem TenO.reg {B g g':Nat} {w:World} {T:Ten} {A:TA} (h:TenO B g w T A) (hg:w.heap.size ≤ g'):TenO B g' w T A:=⟨h.1,h.2.1.reg hg,h.2.2.1.reg hg,h.2.2.2.1.reg hg,h.2.2.2.2.reg hg⟩
theorem SeV.setT {B g:Nat} {w:World} {cs:Array Value} {D:SeD} {T:Ten} {A:TA} (h:SeV B w cs D) (hT:TenO B g w T A) :
  SeV B w (set5 cs (.int .i64 T.1) (.slice A.pd T.2.1.length A.cd) (.slice A.pf T.2.2.1.length A.cf) (.slice A.pi T.2.2.2.1.length A.ci) (.slice A.pb T.2.2.2.2.length A.cb)) (updD D 31 (.t T)) :=
 SeIn.setT h (hT.reg (Nat.le_refl _))
theorem take_succ8 (ds:List Int) (n:Nat) (h:n < ds.length):ds.take (n + 1) = ds.take n ++ [ds.getD n 0]:=by
 rw [List.take_succ_eq_append_getElem h,List.getD_eq_getElem?_getD,List.getElem?_eq_getElem h]; rfl
theorem rints8_any (p:Option Addr) (c:Nat) (xs:List Int) (w:World) (h:Ints .i64 w p c xs) (hs:xs.length ≤ 4096) :
  Calls Try.prog 56 #[.slice p xs.length c] w fun e w' => (∃ q d,e = .returned (.slice q xs.length d) ∧ Ints .i64 w' q d xs ∧ Fresh w.heap.size w' q xs.length) ∧ Below w.heap.size w w':=by
 obtain ⟨i1,hi1,y1,z1,b1⟩:=info_parts Try.info8int
 have H:=hide h
 clear h
 go_enter Try.func56,Try.ntmps56
 go_wp2_with fail
 go_loopw [3,4] (fun v iv wr => ∃ n:Nat,iv = .int .i64 n ∧ n ≤ xs.length ∧ OwnG 3 (Value.int .i64) w wr v (xs.take n)) (fun _ iv _ => xs.length - (intOf iv).toNat)
 case atStart => exact ⟨0,rfl,by omega,by simpa using OwnG.nil (f:=Value.int .i64) 3 w w (Below.refl _ _)⟩
 case round =>
  obtain ⟨n,rfl,hn,hO⟩:=hrel
  have O:=hide hO
  clear hO
  by_cases hlt:n < xs.length
  ·have hi:(n:Int) < (xs.length:Int):=by omega
   obtain ⟨b,o,hq,hb,hc⟩:=(uh H).ls.lies (show 0 < xs.length by omega)
   subst hq
   have k1:wr.cell? ⟨b,o + n,none⟩ = some (.int .i64 (xs.getD n 0)):=((uh O).2.cell (p:=⟨b,o + n,none⟩) hb).trans (hc n hlt)
   have HT:=hide (take_succ8 xs n hlt)
   obtain ⟨r0,r1⟩:=(uh H).i64 n hlt
   have hl:(xs.take n).length = n:=by rw [List.length_take]; omega
   clear hc
   generalize xs.getD n 0 = x at k1 HT r0 r1
   go_wp2_with (at_builtin; (refine wpList_append_ls rfl _ _ 27 rfl w 3 i1 (.int .i64 0) 8 Try.underlying27 hi1 y1 z1 b1 rfl (int_one .i64) _ (xs.take n) rfl ((uh O).below (al1p _ _)) (some ⟨wr.heap.size,0,none⟩) 1 [x] rfl (ls_one6 _ _ _) (by unfold maxLen; rw [hl]; simp <;> omega) (by rw [hl]; simp <;> omega) ?_; intro v2 w2 O2; have HO2:=hide O2; clear O2))
   go_roundw
   case rel => exact ⟨n + 1,by go_num,by omega,by rw [uh HT]; exact uh HO2⟩
   case measure => simp [intOf]; omega
  ·have hi:¬ (n:Int) < (xs.length:Int):=by omega
   obtain ⟨q,d,hv,hL,hF⟩:=(uh O).form
   have hB:=(uh O).2
   rw [List.take_of_length_le (by omega)] at hv hL hF
   subst hv
   have HL:=hide hL
   have HF:=hide hF
   have BB:=hide hB
   clear hL hB hF O
   go_wp2_with fail
   go_ret
   exact ⟨⟨q,d,rfl,(uh HL).ints (uh H).2.2.1,uh HF⟩,uh BB⟩
theorem ow_fresh {kd:IntKind} {B0 B g:Nat} {w:World} {p:Option Addr} {c:Nat} {xs:List Int} (h:Ints kd w p c xs) (hF:Fresh B0 w p xs.length) (hB:B ≤ B0) (hg:g + 1 < B0):OwL kd B g w p c xs:=⟨h,fun b o e hp => have k:=hF b o e hp; ⟨by omega,by omega,k.2⟩⟩
theorem se_box {w:World} {cs:Array Value} {a:List Value}:Box (((w.alloc (.cells cs 35)).alloc (.cells a.toArray 45)).alloc (.cells zeroC 35)) w.heap.size cs 35:=Box.alloc (Box.alloc (Box.new _ _ _) _) _
theorem se_boxA {w:World} {cs:Array Value} {a:List Value}:Box (((w.alloc (.cells cs 35)).alloc (.cells a.toArray 45)).alloc (.cells zeroC 35)) (w.heap.size + 1) a.toArray 45:=by
 have:=Box.new (w.alloc (.cells cs 35)) a.toArray 45
 simp at this
 exact this.alloc _
theorem se_boxR {w:World} {cs:Array Value} {a:List Value}:Box (((w.alloc (.cells cs 35)).alloc (.cells a.toArray 45)).alloc (.cells zeroC 35)) (w.heap.size + 2) zeroC 35:=by
 have:=Box.new ((w.alloc (.cells cs 35)).alloc (.cells a.toArray 45)) zeroC 35
 simp at this
 exact this
theorem se_below {w:World} {cs:Array Value} {a:List Value}:Below w.heap.size w (((w.alloc (.cells cs 35)).alloc (.cells a.toArray 45)).alloc (.cells zeroC 35)):=bl_tr (bl_tr (al1p _ _) (al1p _ _)) (al1p _ _)
theorem rflags8_any (cs:Array Value) (D:SeD) (a:AtA) (B B':Nat) (w:World) (hc:SeV B w cs D) (h:AtIn B' w a) :
  Calls Try.prog 39 #[.agg cs,.agg (atCells a).toArray] w fun e w' => ∃ c2,e = .returned (.agg c2) ∧ SeV B w' c2 (updL D (flagL a.d)) ∧ Below w.heap.size w w' ∧ ∀ OK:Nat → Prop,InB OK cs → InB OK c2:=by
 have HN:=hide h.1
 have HC:=hide hc
 have hs:cs.size = 36:=hc.1
 clear hc h
 obtain ⟨nm,kd,f,i,s,⟨t0,t1,t2,t3,t4⟩,A,fl,qf,cf,is,qi,ci⟩:=a
 simp only at HN
 obtain ⟨E,hE⟩:∃ E,updL D (flagL (AtA.d ⟨nm,kd,f,i,s,(t0,t1,t2,t3,t4),A,fl,qf,cf,is,qi,ci⟩)) = E:=⟨_,rfl⟩
 rw [hE]
 have HE:=hide hE
 clear hE
 obtain ⟨L,hL⟩:∃ L,atCells ⟨nm,kd,f,i,s,(t0,t1,t2,t3,t4),A,fl,qf,cf,is,qi,ci⟩ = L:=⟨_,rfl⟩
 rw [hL]
 obtain ⟨W,hW⟩:∃ W,W = ((w.alloc (.cells cs 35)).alloc (.cells L.toArray 45)).alloc (.cells zeroC 35):=⟨_,rfl⟩
 have ZW:W.heap.size = w.heap.size + 3:=by rw [hW]; simp
 have BW:Hid (Below w.heap.size w W):=hide (by rw [hW]; exact se_below)
 have G0:Hid (Box W w.heap.size cs 35):=hide (by rw [hW]; exact se_box)
 have A0:Hid (Box W (w.heap.size + 1) L.toArray 45):=hide (by rw [hW]; exact se_boxA)
 have R0:Hid (Box W (w.heap.size + 2) zeroC 35):=hide (by rw [hW]; exact se_boxR)
 have k0:W.cell? ⟨w.heap.size + 1,0,none⟩ = some (.string (strOfNums nm)):=by rw [(uh A0).cell,← hL]; rfl
 have k3:W.cell? ⟨w.heap.size + 1,3,none⟩ = some (.int .i64 i):=by rw [(uh A0).cell,← hL]; rfl
 clear hL A0
 obtain ⟨yes,hy⟩:∃ y,(i == 1) = y:=⟨_,rfl⟩
 have HEY:Hid (E = updL D (match flagK nm with | some k => [(k,FV.b yes)] | none => [])):=hide (by rw [← uh HE,← hy]; rfl)
 clear HE
 by_cases d0:nm = [107,101,101,112,100,105,109,115]
 ·have n0:((strOfNums nm).toList == [107,101,101,112,100,105,109,115]) = true:=lit_yes8 (uh HN) [107,101,101,112,100,105,109,115] rfl _ rfl d0
  have HF:Hid (E = updD D 3 (.b yes)):=hide (by rw [uh HEY,d0]; rfl)
  clear d0 HEY
  obtain ⟨⟨v,c3⟩,f3⟩:(∃ v,W.cell? ⟨w.heap.size,3,none⟩ = some v) ∧ W.frozen? ⟨w.heap.size,3,none⟩ = false:=⟨(uh G0).some8 (by rw [hs]; decide),(uh G0).frozen 3⟩
  have hg:w.heap.size < W.heap.size:=by omega
  have CS:=hide ((uh G0).same 3 (.bool yes))
  have R1:=hide ((uh R0).other (by omega) 3 (.bool yes):Box (W.setCell ⟨w.heap.size,3,none⟩ (.bool yes)) _ _ _)
  have IN:=hide ((uh HC).setB 3 yes (by decide) rfl)
  have BV:Hid (Below w.heap.size w (W.setCell ⟨w.heap.size,3,none⟩ (.bool yes))):=hide (Below.setCell (uh BW) (Nat.le_refl _) _)
  go_enter Try.func39,Try.ntmps39
  unfold zeroC at hW
  go_wp2_with (first | (rw [← hW]; clear hW) | (refine wpList_load8 rfl _ rfl rfl (uh CS) (uh IN).1 ?_) | (refine wpList_store8 rfl _ _ rfl rfl rfl (uh R1) (uh IN).1 rfl (SeIn.ones (uh IN)) ?_; intro w5 b5 s5 _; have B5:=hide b5; have S5:=hide s5; clear b5 s5))
  have BT:Hid (Below w.heap.size w w5):=hide (bl_tr7 (uh BV) (bl_mono7 (uh S5).1 (by omega)))
  rw [uh HF]
  refine bodyPost_ret (results_se1 rfl rfl (uh B5) (uh IN).1) rfl ⟨_,rfl,(uh IN).below (uh BT),uh BT,?_⟩
  exact fun OK h => h.set (fun b o n c e _ => by cases e)
 have n0:((strOfNums nm).toList == [107,101,101,112,100,105,109,115]) = false:=lit_no8 (uh HN) [107,101,101,112,100,105,109,115] rfl _ rfl d0
 by_cases d1:nm = [110,111,111,112,95,119,105,116,104,95,101,109,112,116,121,95,97,120,101,115]
 ·have n1:((strOfNums nm).toList == [110,111,111,112,95,119,105,116,104,95,101,109,112,116,121,95,97,120,101,115]) = true:=lit_yes8 (uh HN) [110,111,111,112,95,119,105,116,104,95,101,109,112,116,121,95,97,120,101,115] rfl _ rfl d1
  have HF:Hid (E = updD D 4 (.b yes)):=hide (by rw [uh HEY,d1]; rfl)
  clear d0 d1 HEY
  obtain ⟨⟨v,c4⟩,f4⟩:(∃ v,W.cell? ⟨w.heap.size,4,none⟩ = some v) ∧ W.frozen? ⟨w.heap.size,4,none⟩ = false:=⟨(uh G0).some8 (by rw [hs]; decide),(uh G0).frozen 4⟩
  have hg:w.heap.size < W.heap.size:=by omega
  have CS:=hide ((uh G0).same 4 (.bool yes))
  have R1:=hide ((uh R0).other (by omega) 4 (.bool yes):Box (W.setCell ⟨w.heap.size,4,none⟩ (.bool yes)) _ _ _)
  have IN:=hide ((uh HC).setB 4 yes (by decide) rfl)
  have BV:Hid (Below w.heap.size w (W.setCell ⟨w.heap.size,4,none⟩ (.bool yes))):=hide (Below.setCell (uh BW) (Nat.le_refl _) _)
  go_enter Try.func39,Try.ntmps39
  unfold zeroC at hW
  go_wp2_with (first | (rw [← hW]; clear hW) | (refine wpList_load8 rfl _ rfl rfl (uh CS) (uh IN).1 ?_) | (refine wpList_store8 rfl _ _ rfl rfl rfl (uh R1) (uh IN).1 rfl (SeIn.ones (uh IN)) ?_; intro w5 b5 s5 _; have B5:=hide b5; have S5:=hide s5; clear b5 s5))
  have BT:Hid (Below w.heap.size w w5):=hide (bl_tr7 (uh BV) (bl_mono7 (uh S5).1 (by omega)))
  rw [uh HF]
  refine bodyPost_ret (results_se1 rfl rfl (uh B5) (uh IN).1) rfl ⟨_,rfl,(uh IN).below (uh BT),uh BT,?_⟩
  exact fun OK h => h.set (fun b o n c e _ => by cases e)
 have n1:((strOfNums nm).toList == [110,111,111,112,95,119,105,116,104,95,101,109,112,116,121,95,97,120,101,115]) = false:=lit_no8 (uh HN) [110,111,111,112,95,119,105,116,104,95,101,109,112,116,121,95,97,120,101,115] rfl _ rfl d1
 by_cases d2:nm = [115,101,108,101,99,116,95,108,97,115,116,95,105,110,100,101,120]
 ·have n2:((strOfNums nm).toList == [115,101,108,101,99,116,95,108,97,115,116,95,105,110,100,101,120]) = true:=lit_yes8 (uh HN) [115,101,108,101,99,116,95,108,97,115,116,95,105,110,100,101,120] rfl _ rfl d2
  have HF:Hid (E = updD D 5 (.b yes)):=hide (by rw [uh HEY,d2]; rfl)
  clear d0 d1 d2 HEY
  obtain ⟨⟨v,c5⟩,f5⟩:(∃ v,W.cell? ⟨w.heap.size,5,none⟩ = some v) ∧ W.frozen? ⟨w.heap.size,5,none⟩ = false:=⟨(uh G0).some8 (by rw [hs]; decide),(uh G0).frozen 5⟩
  have hg:w.heap.size < W.heap.size:=by omega
  have CS:=hide ((uh G0).same 5 (.bool yes))
  have R1:=hide ((uh R0).other (by omega) 5 (.bool yes):Box (W.setCell ⟨w.heap.size,5,none⟩ (.bool yes)) _ _ _)
  have IN:=hide ((uh HC).setB 5 yes (by decide) rfl)
  have BV:Hid (Below w.heap.size w (W.setCell ⟨w.heap.size,5,none⟩ (.bool yes))):=hide (Below.setCell (uh BW) (Nat.le_refl _) _)
  go_enter Try.func39,Try.ntmps39
  unfold zeroC at hW
  go_wp2_with (first | (rw [← hW]; clear hW) | (refine wpList_load8 rfl _ rfl rfl (uh CS) (uh IN).1 ?_) | (refine wpList_store8 rfl _ _ rfl rfl rfl (uh R1) (uh IN).1 rfl (SeIn.ones (uh IN)) ?_; intro w5 b5 s5 _; have B5:=hide b5; have S5:=hide s5; clear b5 s5))
  have BT:Hid (Below w.heap.size w w5):=hide (bl_tr7 (uh BV) (bl_mono7 (uh S5).1 (by omega)))
  rw [uh HF]
  refine bodyPost_ret (results_se1 rfl rfl (uh B5) (uh IN).1) rfl ⟨_,rfl,(uh IN).below (uh BT),uh BT,?_⟩
  exact fun OK h => h.set (fun b o n c e _ => by cases e)
 have n2:((strOfNums nm).toList == [115,101,108,101,99,116,95,108,97,115,116,95,105,110,100,101,120]) = false:=lit_no8 (uh HN) [115,101,108,101,99,116,95,108,97,115,116,95,105,110,100,101,120] rfl _ rfl d2
 by_cases d3:nm = [97,108,108,111,119,122,101,114,111]
 ·have n3:((strOfNums nm).toList == [97,108,108,111,119,122,101,114,111]) = true:=lit_yes8 (uh HN) [97,108,108,111,119,122,101,114,111] rfl _ rfl d3
  have HF:Hid (E = updD D 6 (.b yes)):=hide (by rw [uh HEY,d3]; rfl)
  clear d0 d1 d2 d3 HEY
  obtain ⟨⟨v,c6⟩,f6⟩:(∃ v,W.cell? ⟨w.heap.size,6,none⟩ = some v) ∧ W.frozen? ⟨w.heap.size,6,none⟩ = false:=⟨(uh G0).some8 (by rw [hs]; decide),(uh G0).frozen 6⟩
  have hg:w.heap.size < W.heap.size:=by omega
  have CS:=hide ((uh G0).same 6 (.bool yes))
  have R1:=hide ((uh R0).other (by omega) 6 (.bool yes):Box (W.setCell ⟨w.heap.size,6,none⟩ (.bool yes)) _ _ _)
  have IN:=hide ((uh HC).setB 6 yes (by decide) rfl)
  have BV:Hid (Below w.heap.size w (W.setCell ⟨w.heap.size,6,none⟩ (.bool yes))):=hide (Below.setCell (uh BW) (Nat.le_refl _) _)
  go_enter Try.func39,Try.ntmps39
  unfold zeroC at hW
  go_wp2_with (first | (rw [← hW]; clear hW) | (refine wpList_load8 rfl _ rfl rfl (uh CS) (uh IN).1 ?_) | (refine wpList_store8 rfl _ _ rfl rfl rfl (uh R1) (uh IN).1 rfl (SeIn.ones (uh IN)) ?_; intro w5 b5 s5 _; have B5:=hide b5; have S5:=hide s5; clear b5 s5))
  have BT:Hid (Below w.heap.size w w5):=hide (bl_tr7 (uh BV) (bl_mono7 (uh S5).1 (by omega)))
  rw [uh HF]
  refine bodyPost_ret (results_se1 rfl rfl (uh B5) (uh IN).1) rfl ⟨_,rfl,(uh IN).below (uh BT),uh BT,?_⟩
  exact fun OK h => h.set (fun b o n c e _ => by cases e)
 have n3:((strOfNums nm).toList == [97,108,108,111,119,122,101,114,111]) = false:=lit_no8 (uh HN) [97,108,108,111,119,122,101,114,111] rfl _ rfl d3
 by_cases d4:nm = [100,101,116,101,99,116,95,110,101,103,97,116,105,118,101]
 ·have n4:((strOfNums nm).toList == [100,101,116,101,99,116,95,110,101,103,97,116,105,118,101]) = true:=lit_yes8 (uh HN) [100,101,116,101,99,116,95,110,101,103,97,116,105,118,101] rfl _ rfl d4
  have HF:Hid (E = updD D 12 (.b yes)):=hide (by rw [uh HEY,d4]; rfl)
  clear d0 d1 d2 d3 d4 HEY
  obtain ⟨⟨v,c12⟩,f12⟩:(∃ v,W.cell? ⟨w.heap.size,12,none⟩ = some v) ∧ W.frozen? ⟨w.heap.size,12,none⟩ = false:=⟨(uh G0).some8 (by rw [hs]; decide),(uh G0).frozen 12⟩
  have hg:w.heap.size < W.heap.size:=by omega
  have CS:=hide ((uh G0).same 12 (.bool yes))
  have R1:=hide ((uh R0).other (by omega) 12 (.bool yes):Box (W.setCell ⟨w.heap.size,12,none⟩ (.bool yes)) _ _ _)
  have IN:=hide ((uh HC).setB 12 yes (by decide) rfl)
  have BV:Hid (Below w.heap.size w (W.setCell ⟨w.heap.size,12,none⟩ (.bool yes))):=hide (Below.setCell (uh BW) (Nat.le_refl _) _)
  go_enter Try.func39,Try.ntmps39
  unfold zeroC at hW
  go_wp2_with (first | (rw [← hW]; clear hW) | (refine wpList_load8 rfl _ rfl rfl (uh CS) (uh IN).1 ?_) | (refine wpList_store8 rfl _ _ rfl rfl rfl (uh R1) (uh IN).1 rfl (SeIn.ones (uh IN)) ?_; intro w5 b5 s5 _; have B5:=hide b5; have S5:=hide s5; clear b5 s5))
  have BT:Hid (Below w.heap.size w w5):=hide (bl_tr7 (uh BV) (bl_mono7 (uh S5).1 (by omega)))
  rw [uh HF]
  refine bodyPost_ret (results_se1 rfl rfl (uh B5) (uh IN).1) rfl ⟨_,rfl,(uh IN).below (uh BT),uh BT,?_⟩
  exact fun OK h => h.set (fun b o n c e _ => by cases e)
 have n4:((strOfNums nm).toList == [100,101,116,101,99,116,95,110,101,103,97,116,105,118,101]) = false:=lit_no8 (uh HN) [100,101,116,101,99,116,95,110,101,103,97,116,105,118,101] rfl _ rfl d4
 by_cases d5:nm = [100,101,116,101,99,116,95,112,111,115,105,116,105,118,101]
 ·have n5:((strOfNums nm).toList == [100,101,116,101,99,116,95,112,111,115,105,116,105,118,101]) = true:=lit_yes8 (uh HN) [100,101,116,101,99,116,95,112,111,115,105,116,105,118,101] rfl _ rfl d5
  have HF:Hid (E = updD D 13 (.b yes)):=hide (by rw [uh HEY,d5]; rfl)
  clear d0 d1 d2 d3 d4 d5 HEY
  obtain ⟨⟨v,c13⟩,f13⟩:(∃ v,W.cell? ⟨w.heap.size,13,none⟩ = some v) ∧ W.frozen? ⟨w.heap.size,13,none⟩ = false:=⟨(uh G0).some8 (by rw [hs]; decide),(uh G0).frozen 13⟩
  have hg:w.heap.size < W.heap.size:=by omega
  have CS:=hide ((uh G0).same 13 (.bool yes))
  have R1:=hide ((uh R0).other (by omega) 13 (.bool yes):Box (W.setCell ⟨w.heap.size,13,none⟩ (.bool yes)) _ _ _)
  have IN:=hide ((uh HC).setB 13 yes (by decide) rfl)
  have BV:Hid (Below w.heap.size w (W.setCell ⟨w.heap.size,13,none⟩ (.bool yes))):=hide (Below.setCell (uh BW) (Nat.le_refl _) _)
  go_enter Try.func39,Try.ntmps39
  unfold zeroC at hW
  go_wp2_with (first | (rw [← hW]; clear hW) | (refine wpList_load8 rfl _ rfl rfl (uh CS) (uh IN).1 ?_) | (refine wpList_store8 rfl _ _ rfl rfl rfl (uh R1) (uh IN).1 rfl (SeIn.ones (uh IN)) ?_; intro w5 b5 s5 _; have B5:=hide b5; have S5:=hide s5; clear b5 s5))
  have BT:Hid (Below w.heap.size w w5):=hide (bl_tr7 (uh BV) (bl_mono7 (uh S5).1 (by omega)))
  rw [uh HF]
  refine bodyPost_ret (results_se1 rfl rfl (uh B5) (uh IN).1) rfl ⟨_,rfl,(uh IN).below (uh BT),uh BT,?_⟩
  exact fun OK h => h.set (fun b o n c e _ => by cases e)
 have n5:((strOfNums nm).toList == [100,101,116,101,99,116,95,112,111,115,105,116,105,118,101]) = false:=lit_no8 (uh HN) [100,101,116,101,99,116,95,112,111,115,105,116,105,118,101] rfl _ rfl d5
 by_cases d6:nm = [102,109,111,100]
 ·have n6:((strOfNums nm).toList == [102,109,111,100]) = true:=lit_yes8 (uh HN) [102,109,111,100] rfl _ rfl d6
  have HF:Hid (E = updD D 14 (.b yes)):=hide (by rw [uh HEY,d6]; rfl)
  clear d0 d1 d2 d3 d4 d5 d6 HEY
  obtain ⟨⟨v,c14⟩,f14⟩:(∃ v,W.cell? ⟨w.heap.size,14,none⟩ = some v) ∧ W.frozen? ⟨w.heap.size,14,none⟩ = false:=⟨(uh G0).some8 (by rw [hs]; decide),(uh G0).frozen 14⟩
  have hg:w.heap.size < W.heap.size:=by omega
  have CS:=hide ((uh G0).same 14 (.bool yes))
  have R1:=hide ((uh R0).other (by omega) 14 (.bool yes):Box (W.setCell ⟨w.heap.size,14,none⟩ (.bool yes)) _ _ _)
  have IN:=hide ((uh HC).setB 14 yes (by decide) rfl)
  have BV:Hid (Below w.heap.size w (W.setCell ⟨w.heap.size,14,none⟩ (.bool yes))):=hide (Below.setCell (uh BW) (Nat.le_refl _) _)
  go_enter Try.func39,Try.ntmps39
  unfold zeroC at hW
  go_wp2_with (first | (rw [← hW]; clear hW) | (refine wpList_load8 rfl _ rfl rfl (uh CS) (uh IN).1 ?_) | (refine wpList_store8 rfl _ _ rfl rfl rfl (uh R1) (uh IN).1 rfl (SeIn.ones (uh IN)) ?_; intro w5 b5 s5 _; have B5:=hide b5; have S5:=hide s5; clear b5 s5))
  have BT:Hid (Below w.heap.size w w5):=hide (bl_tr7 (uh BV) (bl_mono7 (uh S5).1 (by omega)))
  rw [uh HF]
  refine bodyPost_ret (results_se1 rfl rfl (uh B5) (uh IN).1) rfl ⟨_,rfl,(uh IN).below (uh BT),uh BT,?_⟩
  exact fun OK h => h.set (fun b o n c e _ => by cases e)
 have n6:((strOfNums nm).toList == [102,109,111,100]) = false:=lit_no8 (uh HN) [102,109,111,100] rfl _ rfl d6
 by_cases d7:nm = [116,114,97,110,115,65]
 ·have n7:((strOfNums nm).toList == [116,114,97,110,115,65]) = true:=lit_yes8 (uh HN) [116,114,97,110,115,65] rfl _ rfl d7
  have HF:Hid (E = updD D 17 (.b yes)):=hide (by rw [uh HEY,d7]; rfl)
  clear d0 d1 d2 d3 d4 d5 d6 d7 HEY
  obtain ⟨⟨v,c17⟩,f17⟩:(∃ v,W.cell? ⟨w.heap.size,17,none⟩ = some v) ∧ W.frozen? ⟨w.heap.size,17,none⟩ = false:=⟨(uh G0).some8 (by rw [hs]; decide),(uh G0).frozen 17⟩
  have hg:w.heap.size < W.heap.size:=by omega
  have CS:=hide ((uh G0).same 17 (.bool yes))
  have R1:=hide ((uh R0).other (by omega) 17 (.bool yes):Box (W.setCell ⟨w.heap.size,17,none⟩ (.bool yes)) _ _ _)
  have IN:=hide ((uh HC).setB 17 yes (by decide) rfl)
  have BV:Hid (Below w.heap.size w (W.setCell ⟨w.heap.size,17,none⟩ (.bool yes))):=hide (Below.setCell (uh BW) (Nat.le_refl _) _)
  go_enter Try.func39,Try.ntmps39
  unfold zeroC at hW
  go_wp2_with (first | (rw [← hW]; clear hW) | (refine wpList_load8 rfl _ rfl rfl (uh CS) (uh IN).1 ?_) | (refine wpList_store8 rfl _ _ rfl rfl rfl (uh R1) (uh IN).1 rfl (SeIn.ones (uh IN)) ?_; intro w5 b5 s5 _; have B5:=hide b5; have S5:=hide s5; clear b5 s5))
  have BT:Hid (Below w.heap.size w w5):=hide (bl_tr7 (uh BV) (bl_mono7 (uh S5).1 (by omega)))
  rw [uh HF]
  refine bodyPost_ret (results_se1 rfl rfl (uh B5) (uh IN).1) rfl ⟨_,rfl,(uh IN).below (uh BT),uh BT,?_⟩
  exact fun OK h => h.set (fun b o n c e _ => by cases e)
 have n7:((strOfNums nm).toList == [116,114,97,110,115,65]) = false:=lit_no8 (uh HN) [116,114,97,110,115,65] rfl _ rfl d7
 by_cases d8:nm = [116,114,97,110,115,66]
 ·have n8:((strOfNums nm).toList == [116,114,97,110,115,66]) = true:=lit_yes8 (uh HN) [116,114,97,110,115,66] rfl _ rfl d8
  have HF:Hid (E = updD D 18 (.b yes)):=hide (by rw [uh HEY,d8]; rfl)
  clear d0 d1 d2 d3 d4 d5 d6 d7 d8 HEY
  obtain ⟨⟨v,c18⟩,f18⟩:(∃ v,W.cell? ⟨w.heap.size,18,none⟩ = some v) ∧ W.frozen? ⟨w.heap.size,18,none⟩ = false:=⟨(uh G0).some8 (by rw [hs]; decide),(uh G0).frozen 18⟩
  have hg:w.heap.size < W.heap.size:=by omega
  have CS:=hide ((uh G0).same 18 (.bool yes))
  have R1:=hide ((uh R0).other (by omega) 18 (.bool yes):Box (W.setCell ⟨w.heap.size,18,none⟩ (.bool yes)) _ _ _)
  have IN:=hide ((uh HC).setB 18 yes (by decide) rfl)
  have BV:Hid (Below w.heap.size w (W.setCell ⟨w.heap.size,18,none⟩ (.bool yes))):=hide (Below.setCell (uh BW) (Nat.le_refl _) _)
  go_enter Try.func39,Try.ntmps39
  unfold zeroC at hW
  go_wp2_with (first | (rw [← hW]; clear hW) | (refine wpList_load8 rfl _ rfl rfl (uh CS) (uh IN).1 ?_) | (refine wpList_store8 rfl _ _ rfl rfl rfl (uh R1) (uh IN).1 rfl (SeIn.ones (uh IN)) ?_; intro w5 b5 s5 _; have B5:=hide b5; have S5:=hide s5; clear b5 s5))
  have BT:Hid (Below w.heap.size w w5):=hide (bl_tr7 (uh BV) (bl_mono7 (uh S5).1 (by omega)))
  rw [uh HF]
  refine bodyPost_ret (results_se1 rfl rfl (uh B5) (uh IN).1) rfl ⟨_,rfl,(uh IN).below (uh BT),uh BT,?_⟩
  exact fun OK h => h.set (fun b o n c e _ => by cases e)
 have n8:((strOfNums nm).toList == [116,114,97,110,115,66]) = false:=lit_no8 (uh HN) [116,114,97,110,115,66] rfl _ rfl d8
 by_cases d9:nm = [99,101,105,108,95,109,111,100,101]
 ·have n9:((strOfNums nm).toList == [99,101,105,108,95,109,111,100,101]) = true:=lit_yes8 (uh HN) [99,101,105,108,95,109,111,100,101] rfl _ rfl d9
  have HF:Hid (E = updD D 25 (.b yes)):=hide (by rw [uh HEY,d9]; rfl)
  clear d0 d1 d2 d3 d4 d5 d6 d7 d8 d9 HEY
  obtain ⟨⟨v,c25⟩,f25⟩:(∃ v,W.cell? ⟨w.heap.size,25,none⟩ = some v) ∧ W.frozen? ⟨w.heap.size,25,none⟩ = false:=⟨(uh G0).some8 (by rw [hs]; decide),(uh G0).frozen 25⟩
  have hg:w.heap.size < W.heap.size:=by omega
  have CS:=hide ((uh G0).same 25 (.bool yes))
  have R1:=hide ((uh R0).other (by omega) 25 (.bool yes):Box (W.setCell ⟨w.heap.size,25,none⟩ (.bool yes)) _ _ _)
  have IN:=hide ((uh HC).setB 25 yes (by decide) rfl)
  have BV:Hid (Below w.heap.size w (W.setCell ⟨w.heap.size,25,none⟩ (.bool yes))):=hide (Below.setCell (uh BW) (Nat.le_refl _) _)
  go_enter Try.func39,Try.ntmps39
  unfold zeroC at hW
  go_wp2_with (first | (rw [← hW]; clear hW) | (refine wpList_load8 rfl _ rfl rfl (uh CS) (uh IN).1 ?_) | (refine wpList_store8 rfl _ _ rfl rfl rfl (uh R1) (uh IN).1 rfl (SeIn.ones (uh IN)) ?_; intro w5 b5 s5 _; have B5:=hide b5; have S5:=hide s5; clear b5 s5))
  have BT:Hid (Below w.heap.size w w5):=hide (bl_tr7 (uh BV) (bl_mono7 (uh S5).1 (by omega)))
  rw [uh HF]
  refine bodyPost_ret (results_se1 rfl rfl (uh B5) (uh IN).1) rfl ⟨_,rfl,(uh IN).below (uh BT),uh BT,?_⟩
  exact fun OK h => h.set (fun b o n c e _ => by cases e)
 have n9:((strOfNums nm).toList == [99,101,105,108,95,109,111,100,101]) = false:=lit_no8 (uh HN) [99,101,105,108,95,109,111,100,101] rfl _ rfl d9
 by_cases d10:nm = [99,111,117,110,116,95,105,110,99,108,117,100,101,95,112,97,100]
 ·have n10:((strOfNums nm).toList == [99,111,117,110,116,95,105,110,99,108,117,100,101,95,112,97,100]) = true:=lit_yes8 (uh HN) [99,111,117,110,116,95,105,110,99,108,117,100,101,95,112,97,100] rfl _ rfl d10
  have HF:Hid (E = updD D 26 (.b yes)):=hide (by rw [uh HEY,d10]; rfl)
  clear d0 d1 d2 d3 d4 d5 d6 d7 d8 d9 d10 HEY
  obtain ⟨⟨v,c26⟩,f26⟩:(∃ v,W.cell? ⟨w.heap.size,26,none⟩ = some v) ∧ W.frozen? ⟨w.heap.size,26,none⟩ = false:=⟨(uh G0).some8 (by rw [hs]; decide),(uh G0).frozen 26⟩
  have hg:w.heap.size < W.heap.size:=by omega
  have CS:=hide ((uh G0).same 26 (.bool yes))
  have R1:=hide ((uh R0).other (by omega) 26 (.bool yes):Box (W.setCell ⟨w.heap.size,26,none⟩ (.bool yes)) _ _ _)
  have IN:=hide ((uh HC).setB 26 yes (by decide) rfl)
  have BV:Hid (Below w.heap.size w (W.setCell ⟨w.heap.size,26,none⟩ (.bool yes))):=hide (Below.setCell (uh BW) (Nat.le_refl _) _)
  go_enter Try.func39,Try.ntmps39
  unfold zeroC at hW
  go_wp2_with (first | (rw [← hW]; clear hW) | (refine wpList_load8 rfl _ rfl rfl (uh CS) (uh IN).1 ?_) | (refine wpList_store8 rfl _ _ rfl rfl rfl (uh R1) (uh IN).1 rfl (SeIn.ones (uh IN)) ?_; intro w5 b5 s5 _; have B5:=hide b5; have S5:=hide s5; clear b5 s5))
  have BT:Hid (Below w.heap.size w w5):=hide (bl_tr7 (uh BV) (bl_mono7 (uh S5).1 (by omega)))
  rw [uh HF]
  refine bodyPost_ret (results_se1 rfl rfl (uh B5) (uh IN).1) rfl ⟨_,rfl,(uh IN).below (uh BT),uh BT,?_⟩
  exact fun OK h => h.set (fun b o n c e _ => by cases e)
 have n10:((strOfNums nm).toList == [99,111,117,110,116,95,105,110,99,108,117,100,101,95,112,97,100]) = false:=lit_no8 (uh HN) [99,111,117,110,116,95,105,110,99,108,117,100,101,95,112,97,100] rfl _ rfl d10
 have HF:Hid (E = D):=hide (by rw [uh HEY]; unfold flagK; rw [if_neg d0,if_neg d1,if_neg d2,if_neg d3,if_neg d4,if_neg d5,if_neg d6,if_neg d7,if_neg d8,if_neg d9,if_neg d10]; rfl)
 clear d0 d1 d2 d3 d4 d5 d6 d7 d8 d9 d10 HEY
 have CS:=G0
 have R1:=R0
 have IN:=HC
 have BV:=BW
 go_enter Try.func39,Try.ntmps39
 unfold zeroC at hW
 go_wp2_with (first | (rw [← hW]; clear hW) | (refine wpList_load8 rfl _ rfl rfl (uh CS) (uh IN).1 ?_) | (refine wpList_store8 rfl _ _ rfl rfl rfl (uh R1) (uh IN).1 rfl (SeIn.ones (uh IN)) ?_; intro w5 b5 s5 _; have B5:=hide b5; have S5:=hide s5; clear b5 s5))
 have BT:Hid (Below w.heap.size w w5):=hide (bl_tr7 (uh BV) (bl_mono7 (uh S5).1 (by omega)))
 rw [uh HF]
 refine bodyPost_ret (results_se1 rfl rfl (uh B5) (uh IN).1) rfl ⟨_,rfl,(uh IN).below (uh BT),uh BT,?_⟩
 exact fun OK h => h
end Go.Proofs.Ytnmciappielkcaa
