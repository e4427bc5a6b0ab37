import Derived.Test.YtnmciappielkcaaV40
set_option maxRecDepth 100000
set_option maxHeartbeats 8000000
namespace Go.Proofs.Ytnmciappielkcaa
open Go.RowKit
set_option linter.unusedVariables false
set_option linter.unusedSimpArgs false
def Spo (lo hi:Nat) (w w':World):Prop :=
 w.heap.size ≤ w'.heap.size ∧ (∀ k,(k < lo ∨ hi ≤ k) → k < w.heap.size → w'.heap[k]? = w.heap[k]?) ∧
  ∀ b o v,w.cell? ⟨b,o,none⟩ = some v → ∃ v',w'.cell? ⟨b,o,none⟩ = some v' ∧ (∀ kd x,v = .int kd x → (Lit.int kd x).wf = true → ∃ y,v' = .int kd y ∧ (Lit.int kd y).wf = true) ∧ (w.frozen? ⟨b,o,none⟩ = false → w'.frozen? ⟨b,o,none⟩ = false)
theorem Spo.refl (lo hi:Nat) (w:World):Spo lo hi w w:=⟨Nat.le_refl _,fun _ _ _ => rfl,fun b o v h => ⟨v,h,fun kd x e hx => ⟨x,e,hx⟩,fun h => h⟩⟩
theorem Spo.at {lo hi:Nat} {w w':World} (h:Spo lo hi w w') {b o:Nat} {kd:IntKind} {x:Int} (hc:w.cell? ⟨b,o,none⟩ = some (.int kd x)) (hx:(Lit.int kd x).wf = true) (hf:w.frozen? ⟨b,o,none⟩ = false) :
  ∃ y,w'.cell? ⟨b,o,none⟩ = some (.int kd y) ∧ (Lit.int kd y).wf = true ∧ w'.frozen? ⟨b,o,none⟩ = false:=by
 obtain ⟨v,h1,h2,h3⟩:=h.2.2 b o _ hc
 obtain ⟨y,rfl,hy⟩:=h2 kd x rfl hx
 exact ⟨y,h1,hy,h3 hf⟩
theorem Spo.set {lo hi:Nat} {w w':World} (h:Spo lo hi w w') {b o:Nat} {kd:IntKind} {x y:Int} (hl:lo ≤ b) (hh:b < hi) (hc:w.cell? ⟨b,o,none⟩ = some (.int kd x)) (hx:(Lit.int kd x).wf = true) (hf:w.frozen? ⟨b,o,none⟩ = false) (hy:(Lit.int kd y).wf = true) :
  Spo lo hi w (w'.setCell ⟨b,o,none⟩ (.int kd y)):=by
 obtain ⟨z,c1,_,f1⟩:=h.at hc hx hf
 refine ⟨by simp [World.setCell]; exact h.1,fun k hk hw => ?_,fun b' o' v hv => ?_⟩
 ·refine (Below.heap_setCell w' ⟨b,o,none⟩ _ k (by simp; omega)).trans (h.2.1 k hk hw)
 ·obtain ⟨v',h1,h2,h3⟩:=h.2.2 b' o' v hv
  by_cases e:b' = b ∧ o' = o
  ·obtain ⟨rfl,rfl⟩:=e
   rw [hc] at hv
   simp only [Option.some.injEq] at hv
   subst hv
   refine ⟨.int kd y,World.cell?_setCell_same w' _ _ c1,fun kd' x' e' _ => ?_,fun hf' => ?_⟩
   ·simp only [Value.int.injEq] at e'
    obtain ⟨rfl,rfl⟩:=e'
    exact ⟨y,rfl,hy⟩
   ·rw [World.frozen?_setCell]; exact h3 hf'
  ·refine ⟨v',?_,h2,fun hf' => by rw [World.frozen?_setCell]; exact h3 hf'⟩
   rw [World.cell?_setCell_other]
   ·exact h1
   ·intro e'
    simp only [Addr.mk.injEq] at e'
    exact e ⟨e'.1.symm,e'.2.1.symm⟩
theorem Spo.lt {lo hi:Nat} {w w':World} (h:Spo lo hi w w') {k:Nat} (hk:k < w.heap.size):k < w'.heap.size:=Nat.lt_of_lt_of_le hk h.1
theorem Spo.box {lo hi:Nat} {w w':World} (h:Spo lo hi w w') {g:Nat} {cs:Array Value} {t:TypeId} (hb:Box w g cs t) (hg:g < lo ∨ hi ≤ g):Box w' g cs t:=(h.2.1 g hg hb.lt).trans hb
theorem SeV.spo {lo hi B:Nat} {w w':World} {cs:Array Value} {D:SeD} (h:SeV B w cs D) (hs:Spo lo hi w w') (hB:hi ≤ B):SeV B w' cs D:=h.hold hs.1 (fun k h1 h2 => hs.2.1 k (.inr (Nat.le_trans hB h1)) h2)
theorem FIn.l8 {B g:Nat} {w:World} {cs:Array Value} {k:Nat}:∀ {f:FV},kindF f = 3 → FIn B g w cs k f → ∃ p c xs,cs[k]? = some (.slice p xs.length c) ∧ OwL .i64 B g w p c xs
 | ⟨3,_,_,xs,_⟩,_,⟨p,c,h1,h2⟩ => ⟨p,c,xs,h1,h2⟩
 | ⟨0,_,_,_,_⟩,h,_ => by cases h
 | ⟨1,_,_,_,_⟩,h,_ => by cases h
 | ⟨2,_,_,_,_⟩,h,_ => by cases h
 | ⟨_ + 4,_,_,_,_⟩,h,_ => by cases h
theorem FIn.t8 {B g:Nat} {w:World} {cs:Array Value} {k:Nat}:∀ {f:FV},kindF f = 4 → FIn B g w cs k f → ∃ (T:Ten) (A:TA),(cs[k]? = some (.int .i64 T.1) ∧ cs[k + 1]? = some (.slice A.pd T.2.1.length A.cd) ∧ cs[k + 2]? = some (.slice A.pf T.2.2.1.length A.cf) ∧ cs[k + 3]? = some (.slice A.pi T.2.2.2.1.length A.ci) ∧ cs[k + 4]? = some (.slice A.pb T.2.2.2.2.length A.cb)) ∧ TenO B g w T A
 | ⟨_ + 4,_,_,_,T⟩,_,⟨A,h1,h2⟩ => ⟨T,A,h1,h2⟩
 | ⟨0,_,_,_,_⟩,h,_ => by cases h
 | ⟨1,_,_,_,_⟩,h,_ => by cases h
 | ⟨2,_,_,_,_⟩,h,_ => by cases h
 | ⟨3,_,_,_,_⟩,h,_ => by cases h
theorem SeV.l8 {B k:Nat} {w:World} {cs:Array Value} {D:SeD} (h:SeV B w cs D) (hk:k ≤ 31) (hf:kindsK.getD k 0 = 3):∃ p c xs,cs[k]? = some (.slice p xs.length c) ∧ OwL .i64 B w.heap.size w p c xs:=(h.2 k hk).1.l8 ((h.2 k hk).2.trans hf)
theorem SeV.t8 {B:Nat} {w:World} {cs:Array Value} {D:SeD} (h:SeV B w cs D):∃ (T:Ten) (A:TA),(cs[31]? = some (.int .i64 T.1) ∧ cs[32]? = some (.slice A.pd T.2.1.length A.cd) ∧ cs[33]? = some (.slice A.pf T.2.2.1.length A.cf) ∧ cs[34]? = some (.slice A.pi T.2.2.2.1.length A.ci) ∧ cs[35]? = some (.slice A.pb T.2.2.2.2.length A.cb)) ∧ TenO B w.heap.size w T A:=(h.2 31 (by omega)).1.t8 ((h.2 31 (by omega)).2.trans rfl)
theorem OwL.spo {kd:IntKind} {B g hi lo:Nat} {w:World} {p:Option Addr} {c:Nat} {xs:List Int} (h:OwL kd B g w p c xs) (hlo:lo ≤ B) (hhi:∀ b o,p = some ⟨b,o,none⟩ → 0 < xs.length → b < hi) {n:Nat} (hn:n < xs.length):∃ b o,p = some ⟨b,o,none⟩ ∧ b < w.heap.size ∧
  ∀ w',Spo lo hi w w' → (∃ y,w'.cell? ⟨b,o + n,none⟩ = some (.int kd y) ∧ (Lit.int kd y).wf = true ∧ w'.frozen? ⟨b,o + n,none⟩ = false) ∧ ∀ y,(Lit.int kd y).wf = true → Spo lo hi w (w'.setCell ⟨b,o + n,none⟩ (.int kd y)):=by
 obtain ⟨b,o,e,hb,hc⟩:=h.1.ls.lies (show 0 < xs.length by omega)
 obtain ⟨h1,_,h3⟩:=h.2 b o e (by omega)
 have hb2:=hhi b o e (by omega)
 have hw:(Lit.int kd (xs.getD n 0)).wf = true:=h.1.2.2.1 _ (by rw [List.getD_eq_getElem?_getD,List.getElem?_eq_getElem hn]; exact List.getElem_mem _)
 refine ⟨b,o,e,hb,fun w' hs => ⟨hs.at (hc n hn) hw (h3 n hn),fun y hy => hs.set (by omega) hb2 (hc n hn) hw (h3 n hn) hy⟩⟩
end Go.Proofs.Ytnmciappielkcaa
