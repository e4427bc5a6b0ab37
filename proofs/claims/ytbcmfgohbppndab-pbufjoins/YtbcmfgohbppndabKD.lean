import Derived.Test.YtbcmfgohbppndabKC

/-
  Layer 6: the document's varints and bytes.
-/
namespace Go.Proofs.Ytbcmfgohbppndab
open Go.RowKit
set_option linter.unusedVariables false

theorem al1p (w : World) (o : Obj) : Below w.heap.size w (w.alloc o) := (Below.refl _ _).alloc (Nat.le_refl _) _
theorem bdrewp (w : World) : Below w.heap.size w w.drew := (Below.refl _ _).drew
theorem bneTp {a b : Int} (h : ¬ a = b) : (a != b) = true := by simp [h]
theorem bneFp {a b : Int} (h : a = b) : (a != b) = false := by simp [h]
theorem ls_one6 {α : Type} [Inhabited α] {f : α → Value} (w : World) (x : α) (t : TypeId) : Ls f (w.alloc (.cells #[f x] t)) (some ⟨w.heap.size, 0, none⟩) 1 [x] := by
  refine ⟨Nat.le_refl _, by omega, fun _ => ⟨w.heap.size, 0, rfl, by simp, fun i hi => ?_⟩, fun h => by cases h⟩
  have : i = 0 := by simp at hi; omega
  subst this; simp
theorem own_eq6 {α : Type} {t : TypeId} {f : α → Value} {w wr : World} {v : Value} {xs ys : List α} (h : OwnG t f w wr v xs) (e : xs = ys) : OwnG t f w wr v ys := by subst e; exact h
theorem u8_wf {x : Int} (h : 0 ≤ x ∧ x < 256) : (Lit.int .u8 x).wf = true := by
  simp [Lit.wf, IntKind.min, IntKind.max, IntKind.signed, IntKind.bits]; omega
theorem u8_range6 {x : Int} (h : (Lit.int .u8 x).wf = true) : 0 ≤ x ∧ x < 256 := by
  simp [Lit.wf, IntKind.min, IntKind.max, IntKind.signed, IntKind.bits] at h
  omega
theorem isB_wf {l : List Int} (h : isB l) : ∀ x ∈ l, (Lit.int .u8 x).wf = true := fun x hx => u8_wf (h x hx)
theorem wf_isB {l : List Int} (h : ∀ x ∈ l, (Lit.int .u8 x).wf = true) : isB l := fun x hx => u8_range6 (h x hx)
theorem getD_mem6 {ds : List Int} {n : Nat} (h : n < ds.length) : ds.getD n 0 ∈ ds := by
  rw [List.getD_eq_getElem?_getD, List.getElem?_eq_getElem h]; simp
theorem Try.infoU8 : (Try.prog.info? 5).map (fun i => (i.zero, i.size, i.bytes)) = some (some (.int .u8 0), 1, 1) := by kernel_rfl
theorem drop_cons6 {b : List Int} {n : Nat} (h : n < b.length) : b.drop n = b.getD n 0 :: b.drop (n + 1) := by
  rw [List.drop_eq_getElem_cons h]; congr 1; simp [List.getElem?_eq_getElem h]
/-- What is known after i bytes. -/
def comb (i : Nat) (acc : Int) (o : Option (Int × Nat)) : Option (Int × Nat) := o.map fun y => (acc + 128 ^ i * y.1, i + y.2)
theorem comb_zero (o : Option (Int × Nat)) : comb 0 0 o = o := by unfold comb; cases o <;> simp
theorem comb_step (i : Nat) (acc c : Int) (k : Nat) (r : List Int) (h1 : ¬ (k = 0 ∧ 1 < c)) (h2 : ¬ c < 128) : comb i acc (rdG (k + 1) (c :: r)) = comb (i + 1) (acc + 128 ^ i * (c % 128)) (rdG k r) := by
  rw [rdG, if_neg h1, if_neg h2]
  unfold comb
  cases rdG k r with
  | none => rfl
  | some y =>
    simp only [Option.map_some, Int.pow_succ]
    congr 2
    · rw [Int.mul_add, Int.mul_assoc]; omega
    · omega
theorem comb_end (i : Nat) (acc c : Int) (k : Nat) (r : List Int) (h1 : ¬ (k = 0 ∧ 1 < c)) (h2 : c < 128) : comb i acc (rdG (k + 1) (c :: r)) = some (acc + 128 ^ i * (c % 128), i + 1) := by
  rw [rdG, if_neg h1, if_pos h2]; rfl
theorem pow128_le (i : Nat) (h : i ≤ 9) : 1 ≤ (128 : Int) ^ i ∧ (128 : Int) ^ i ≤ 9223372036854775808 := by
  match i, h with
  | 0, _ => decide
  | 1, _ => decide
  | 2, _ => decide
  | 3, _ => decide
  | 4, _ => decide
  | 5, _ => decide
  | 6, _ => decide
  | 7, _ => decide
  | 8, _ => decide
  | 9, _ => decide
theorem Try.f_int3 {a a' b b' c c' : Int} (h1 : a = a') (h2 : b = b') (h3 : c = c') : Ending.returned (.tuple #[.int .u64 a, .int .i64 b, .int .i64 c]) = .returned (.tuple #[.int .u64 a', .int .i64 b', .int .i64 c']) := by rw [h1, h2, h3]
theorem leV_drop {b : List Int} {n : Nat} (h : n < b.length) : leV (b.drop n) = b.getD n 0 + 256 * leV (b.drop (n + 1)) := by rw [drop_cons6 h]; rfl

theorem take_eq6 {xs ys : List Int} {n : Nat} (h1 : n < xs.length) (h2 : n < ys.length) (h : xs.take n = ys.take n) (e : xs.getD n 0 = ys.getD n 0) : xs.take (n + 1) = ys.take (n + 1) := by
  have t : ∀ l : List Int, n < l.length → l.take (n + 1) = l.take n ++ [l.getD n 0] := fun l hl => by
    rw [List.take_add_one, List.getElem?_eq_getElem hl, List.getD_eq_getElem?_getD, List.getElem?_eq_getElem hl]; rfl
  rw [t xs h1, t ys h2, h, e]
theorem take_all6 {α : Type} {xs ys : List α} {n : Nat} (hl : xs.length = ys.length) (hn : n = xs.length) (h : xs.take n = ys.take n) : xs = ys := by
  rw [List.take_of_length_le (by omega), List.take_of_length_le (by omega)] at h
  exact h
set_option maxRecDepth 100000 in
set_option maxHeartbeats 1000000 in
theorem rsameb_any (p p' : Option Addr) (c c' : Nat) (xs ys : List Int) (w : World) (h : Ints .u8 w p c xs) (k : Ints .u8 w p' c' ys) :
    Calls Try.prog 17 #[.slice p xs.length c, .slice p' ys.length c'] w fun e w' => e = .returned (.bool (decide (xs = ys))) ∧ Below w.heap.size w w' := by
  have A1 := hide h
  have A2 := hide k
  have nx := h.len
  have ny := k.len
  clear h k
  obtain ⟨D, hD⟩ : ∃ D, decide (xs = ys) = D := ⟨_, rfl⟩
  have HD := hide hD
  rw [hD]
  clear hD
  by_cases hl : xs.length = ys.length
  · have tl : ((xs.length : Int) != (ys.length : Int)) = false := bneFp (by omega)
    have HL := hide hl
    clear hl
    go_enter Try.func17, Try.ntmps17
    go_wp2_with fail
    clear tl
    go_loopw [5] (fun iv wr => ∃ n : Nat, iv = .int .i64 n ∧ n ≤ xs.length ∧ Hid (xs.take n = ys.take n) ∧ ∃ m, wr = w.drewN m) (fun iv _ => xs.length - (intOf iv).toNat)
    case atStart => exact ⟨0, rfl, by omega, hide (by simp), 0, rfl⟩
    case round =>
      obtain ⟨n0, rfl, hn0, HT0, m0, rfl⟩ := hrel
      by_cases hlt : n0 < xs.length
      · have hlt2 : n0 < ys.length := by rw [← unhide HL]; exact hlt
        obtain ⟨b, o, rfl, hb, hc⟩ := (unhide A1).lies (by omega)
        obtain ⟨b', o', rfl, hb', hc'⟩ := (unhide A2).lies (by omega)
        have hi : (n0 : Int) < (xs.length : Int) := by omega
        have hi2 : (n0 : Int) < (ys.length : Int) := by omega
        have k1 : w.cell? ⟨b, o + n0, none⟩ = some (.int .u8 (xs.getD n0 0)) := hc n0 hlt
        have k2 : w.cell? ⟨b', o' + n0, none⟩ = some (.int .u8 (ys.getD n0 0)) := hc' n0 hlt2
        have TE := hide (fun e => take_eq6 hlt hlt2 (unhide HT0) e)
        have TN : Hid (¬ xs.getD n0 0 = ys.getD n0 0 → ¬ xs = ys) := hide (fun e h => e (by rw [h]))
        clear hc hc' hlt2 HT0
        generalize xs.getD n0 0 = x at k1 TE TN
        generalize ys.getD n0 0 = y at k2 TE TN
        by_cases hxy : x = y
        · have HT2 := hide (unhide TE hxy)
          subst hxy
          clear TE TN
          go_wp2_with fail
          go_quiet (fail)
          go_wp2_with fail
          go_roundw
          case rel => exact ⟨n0 + 1, by go_num, by omega, HT2, _, rfl⟩
          case measure => simp [intOf]; omega
        · have hne : (x == y) = false := by simp [hxy]
          have HNE : Hid (¬ xs = ys) := hide (fun h => unhide TN hxy h)
          clear TE TN hxy
          go_wp2_with fail
          go_quiet (fail)
          go_wp2_with fail
          go_ret
          exact ⟨ret_bool (by rw [← unhide HD]; exact (decide_eq_false (unhide HNE)).symm), bw_drew (bw_drew (Below.refl _ _) _) _⟩
      · have hi : ¬ (n0 : Int) < (xs.length : Int) := by omega
        have Q0 := hide (take_all6 (unhide HL) (show n0 = xs.length by omega) (unhide HT0))
        clear HT0
        go_wp2_with fail
        go_ret
        exact ⟨ret_bool (by rw [← unhide HD]; exact (decide_eq_true (unhide Q0)).symm), bw_drew (Below.refl _ _) _⟩
  · have tl : ((xs.length : Int) != (ys.length : Int)) = true := bneTp (by omega)
    have HNE : Hid (¬ xs = ys) := hide (fun h => hl (by rw [h]))
    clear hl
    go_enter Try.func17, Try.ntmps17
    go_wp2_with fail
    go_ret
    exact ⟨ret_bool (by rw [← unhide HD]; exact (decide_eq_false (unhide HNE)).symm), Below.refl _ _⟩
end Go.Proofs.Ytbcmfgohbppndab
