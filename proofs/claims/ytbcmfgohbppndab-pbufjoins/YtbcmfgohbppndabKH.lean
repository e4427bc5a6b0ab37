import Derived.Test.YtbcmfgohbppndabKG

/-
  Layer 6: the document's lists of varints.
-/
namespace Go.Proofs.Ytbcmfgohbppndab
open Go.RowKit
set_option linter.unusedVariables false

theorem Try.infoU64 : (Try.prog.info? 38).map (fun i => (i.zero, i.size, i.bytes)) = some (some (.int .u64 0), 1, 8) := by kernel_rfl
theorem allOr_one (g : Fld → Option (List Int)) (l : List FA) (n : Nat) (h : n < l.length) (xs : List Int) (hx : allOr g ((l.take n).map FA.f) = some xs) : allOr g ((l.take (n + 1)).map FA.f) = (g (l.getD n noFA).f).map (xs ++ ·) := by
  rw [take_addF l n h, List.map_append, allOr_append, hx]
  simp only [List.map_cons, List.map_nil, allOr]
  cases g (l.getD n noFA).f <;> simp
theorem allOr_none {g : Fld → Option (List Int)} {l : List FA} {n : Nat} (h : allOr g ((l.take n).map FA.f) = none) : allOr g (l.map FA.f) = none := by
  rw [← List.take_append_drop n l, List.map_append, allOr_append, h]
theorem vars_step {d : List Int} {m : Nat} {ys : List Int} (hm : m < d.length) (h : varsL d = (varsL (d.drop m)).map (ys ++ ·)) : varsL d = match rdG 10 (d.drop m) with
    | none => none
    | some y => (varsL (d.drop (m + y.2))).map ((ys ++ [y.1]) ++ ·) := by
  rw [h, varsL_step (by simp; omega)]
  cases rdG 10 (d.drop m) with
  | none => rfl
  | some y =>
    simp only [List.drop_drop]
    cases varsL (d.drop (m + y.2)) <;> simp
theorem rdV_in {d : List Int} {m : Nat} (hm : m ≤ d.length) : rdV d (m : Int) = match rdG 10 (d.drop m) with
    | none => (0, 0, 6)
    | some y => (y.1, ((m + y.2 : Nat) : Int), 0) := by
  unfold rdV rdN
  rw [if_neg (by omega), Int.toNat_natCast]
  cases rdG 10 (d.drop m) <;> rfl
theorem int1_0 {a : FA} (h : a.wr = 0) : int1 a.f = some [a.x] := by unfold int1 FA.f; simp [h]
theorem int1_2 {a : FA} (h : a.wr = 2) : int1 a.f = varsL a.d := by unfold int1 FA.f; simp [h]
theorem int1_no {a : FA} (h : ¬ a.wr = 0) (k : ¬ a.wr = 2) : int1 a.f = none := by unfold int1 FA.f; simp [h, k]
end Go.Proofs.Ytbcmfgohbppndab
