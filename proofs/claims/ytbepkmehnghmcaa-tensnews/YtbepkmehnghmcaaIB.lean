import Derived.Test.YtbepkmehnghmcaaIA
import Derived.Test.YtbepkmehnghmcaaGV

/-
  Layer 5: tensors as data, and as they lie in memory.
-/
namespace Go.Proofs.Ytbepkmehnghmcaa
open Go.RowKit
set_option linter.unusedVariables false

/-- A tensor: its type, its dims, its floats, its whole numbers, its bools. -/
abbrev Ten := Int × List Int × List Int × List Int × List Bool
/-- Where a tensor's lists lie. -/
structure TA where
  pd : Option Addr
  cd : Nat
  pf : Option Addr
  cf : Nat
  pi : Option Addr
  ci : Nat
  pb : Option Addr
  cb : Nat
def tenCells (T : Ten) (A : TA) : Array Value := #[.int .i64 T.1, .slice A.pd T.2.1.length A.cd, .slice A.pf T.2.2.1.length A.cf, .slice A.pi T.2.2.2.1.length A.ci, .slice A.pb T.2.2.2.2.length A.cb]
def tenV (T : Ten) (A : TA) : Value := .agg (tenCells T A)
/-- A tensor that may be read. -/
def TenIn (w : World) (T : Ten) (A : TA) : Prop :=
  (Lit.int .i64 T.1).wf = true ∧ Ints .i64 w A.pd A.cd T.2.1 ∧ Ints .u32 w A.pf A.cf T.2.2.1 ∧ Ints .i64 w A.pi A.ci T.2.2.2.1 ∧ Ls Value.bool w A.pb A.cb T.2.2.2.2
theorem TenIn.below {w w' : World} {T : Ten} {A : TA} (h : TenIn w T A) (hb : Below w.heap.size w w') : TenIn w' T A :=
  ⟨h.1, h.2.1.below hb, h.2.2.1.below hb, h.2.2.2.1.below hb, h.2.2.2.2.below hb⟩
/-- The tensor that is none. -/
def noTen : Ten := (0, [], [], [], [])
def noTA : TA := ⟨none, 0, none, 0, none, 0, none, 0⟩
theorem nilInts (k : IntKind) (w : World) : Ints k w none 0 [] := ⟨by simp, by omega, by simp, by simp, fun _ => rfl⟩
theorem noTen_in (w : World) : TenIn w noTen noTA := ⟨rfl, nilInts _ _, nilInts _ _, nilInts _ _, Ls.nil _⟩
/-- Two lists do not lie in one block. -/
def Apart (p q : Option Addr) (n m : Nat) : Prop := ∀ b o c u, p = some ⟨b, o, none⟩ → q = some ⟨c, u, none⟩ → 0 < n → 0 < m → b ≠ c
/-- A tensor that is the call's own: new since B, its lists apart. -/
def TenOwn (B : Nat) (w : World) (T : Ten) (A : TA) : Prop :=
  TenIn w T A ∧ Fresh B w A.pd T.2.1.length ∧ Fresh B w A.pf T.2.2.1.length ∧ Fresh B w A.pi T.2.2.2.1.length ∧ Fresh B w A.pb T.2.2.2.2.length ∧
    Apart A.pd A.pf T.2.1.length T.2.2.1.length ∧ Apart A.pd A.pi T.2.1.length T.2.2.2.1.length ∧ Apart A.pd A.pb T.2.1.length T.2.2.2.2.length ∧
    Apart A.pf A.pi T.2.2.1.length T.2.2.2.1.length ∧ Apart A.pf A.pb T.2.2.1.length T.2.2.2.2.length ∧ Apart A.pi A.pb T.2.2.2.1.length T.2.2.2.2.length
theorem TenOwn.below {B : Nat} {w w' : World} {T : Ten} {A : TA} (h : TenOwn B w T A) (hb : Below w.heap.size w w') : TenOwn B w' T A := by
  obtain ⟨h0, h1, h2, h3, h4, h5⟩ := h
  exact ⟨h0.below hb, h1.below h0.2.1.ls rfl hb, h2.below h0.2.2.1.ls rfl hb, h3.below h0.2.2.2.1.ls rfl hb, h4.below h0.2.2.2.2 rfl hb, h5⟩
theorem TenOwn.mono {B C : Nat} {w : World} {T : Ten} {A : TA} (h : TenOwn B w T A) (hc : C ≤ B) : TenOwn C w T A := by
  obtain ⟨h0, h1, h2, h3, h4, h5⟩ := h
  exact ⟨h0, h1.mono hc, h2.mono hc, h3.mono hc, h4.mono hc, h5⟩
theorem apart_none {q : Option Addr} {n m : Nat} : Apart none q n m := fun b o c u h => by cases h
theorem apart_none2 {p : Option Addr} {n m : Nat} : Apart p none n m := fun b o c u _ h => by cases h
theorem noTen_own (B : Nat) (w : World) : TenOwn B w noTen noTA :=
  ⟨noTen_in w, Fresh.nil _ _, Fresh.nil _ _, Fresh.nil _ _, Fresh.nil _ _, apart_none, apart_none, apart_none, apart_none, apart_none, apart_none⟩
/-- What was built later lies in another block. -/
theorem fresh_apart {α : Type} [Inhabited α] {f : α → Value} {w wq : World} {p q : Option Addr} {c n m : Nat} {xs : List α} (h : Ls f w p c xs) (hn : n = xs.length) (hs : w.heap.size ≤ wq.heap.size) {wr : World} (hf : Fresh wq.heap.size wr q m) : Apart p q n m := by
  intro b o c u e1 e2 h1 h2 e
  obtain ⟨b', o', e', hb, _⟩ := h.lies (by omega)
  rw [e1] at e'
  simp only [Option.some.injEq, Addr.mk.injEq] at e'
  have := (hf c u e2 h2).1
  omega

def known (k : Int) : Bool := k == 1 || k == 7 || k == 9
/-- Check: the error. -/
def checkV (T : Ten) : Int :=
  if known T.1 = false then 5 else if (sizeV T.2.1).2 ≠ 0 then (sizeV T.2.1).2
  else if (T.2.2.1.length : Int) = (if T.1 = 1 then (sizeV T.2.1).1 else 0) ∧ (T.2.2.2.1.length : Int) = (if T.1 = 7 then (sizeV T.2.1).1 else 0) ∧ (T.2.2.2.2.length : Int) = (if T.1 = 9 then (sizeV T.2.1).1 else 0) then 0 else 3
/-- New: the tensor and the error. -/
def newT (k : Int) (ds : List Int) : Ten :=
  (k, ds, if k = 1 then List.replicate (sizeV ds).1.toNat 0 else [], if k = 7 then List.replicate (sizeV ds).1.toNat 0 else [], if k = 9 then List.replicate (sizeV ds).1.toNat false else [])
def newE (k : Int) (ds : List Int) : Int := if known k = false then 5 else (sizeV ds).2
def newV (k : Int) (ds : List Int) : Ten := if newE k ds = 0 then newT k ds else noTen
def widthV (k : Int) : Int := if k = 1 then 4 else if k = 7 then 8 else if k = 9 then 1 else 0

set_option maxRecDepth 100000 in
theorem rwidth_any (k : Int) (w : World) : Calls Try.prog 22 #[.int .i64 k] w fun e w' => e = .returned (.int .i64 (widthV k)) ∧ w' = w := by
  unfold widthV
  by_cases h1 : k = 1
  · subst h1
    go_enter Try.func22, Try.ntmps22
    go_wp2_with fail
    go_ret
    exact ⟨rfl, rfl⟩
  · have e1 : (k == 1) = false := by simp [h1]
    rw [if_neg h1]
    by_cases h7 : k = 7
    · subst h7
      go_enter Try.func22, Try.ntmps22
      go_wp2_with fail
      go_ret
      exact ⟨rfl, rfl⟩
    · have e7 : (k == 7) = false := by simp [h7]
      rw [if_neg h7]
      by_cases h9 : k = 9
      · subst h9
        go_enter Try.func22, Try.ntmps22
        go_wp2_with fail
        go_ret
        exact ⟨rfl, rfl⟩
      · have e9 : (k == 9) = false := by simp [h9]
        rw [if_neg h9]
        clear h1 h7 h9
        go_enter Try.func22, Try.ntmps22
        go_wp2_with fail
        go_ret
        exact ⟨rfl, rfl⟩
set_option maxRecDepth 100000 in
theorem rknown_any (k : Int) (w : World) : Calls Try.prog 43 #[.int .i64 k] w fun e w' => e = .returned (.bool (known k)) ∧ w' = w := by
  unfold known
  cases h1 : (k == 1)
  · cases h7 : (k == 7)
    · cases h9 : (k == 9)
      all_goals
        go_enter Try.func43, Try.ntmps43
        go_wp2_with fail
        go_ret
        exact ⟨rfl, rfl⟩
    · go_enter Try.func43, Try.ntmps43
      go_wp2_with fail
      go_ret
      exact ⟨rfl, rfl⟩
  · go_enter Try.func43, Try.ntmps43
    go_wp2_with fail
    go_ret
    exact ⟨rfl, rfl⟩
end Go.Proofs.Ytbepkmehnghmcaa
