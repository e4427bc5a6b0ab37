import Derived.Test.YtgobpoaalnpagaaGX
import Derived.Test.YtgobpoaalnpagaaGU

/-
  Layer 4: the document's strides.
-/
namespace Go.Proofs.Ytgobpoaalnpagaa
open Go.RowKit
set_option linter.unusedVariables false

def strideL (ds : List Int) : List Int := (List.range ds.length).map fun i => wrap64 (prodL (ds.drop (i + 1)))
theorem strideL_length (ds : List Int) : (strideL ds).length = ds.length := by simp [strideL]
theorem strideL_take (ds : List Int) (n : Nat) (h : n < ds.length) : (strideL ds).take (n + 1) = (strideL ds).take n ++ [wrap64 (prodL (ds.drop (n + 1)))] := by
  rw [List.take_add_one]
  simp [strideL, h]
theorem wrap64_wf2 (a : Int) : (Lit.int .i64 (wrap64 a)).wf = true := wrap64_wf a
theorem drop_take_succ (ds : List Int) (n k : Nat) (h1 : n ≤ k) (h2 : k < ds.length) : (ds.take (k + 1)).drop n = (ds.take k).drop n ++ [ds.getD k 0] := by
  rw [take_succ ds k h2, List.drop_append_of_le_length (by rw [List.length_take]; omega)]
/-- Strides: the list and the error that the document asks. -/
def StridesR (ds xs : List Int) (e : Int) : Prop := ((sizeV ds).2 ≠ 0 ∧ xs = [] ∧ e = (sizeV ds).2) ∨ ((sizeV ds).2 = 0 ∧ xs = strideL ds ∧ e = 0)
theorem StridesR.one {ds xs ys : List Int} {e f : Int} (h : StridesR ds xs e) (k : StridesR ds ys f) : xs = ys ∧ e = f := by
  rcases h with ⟨a, b, c⟩ | ⟨a, b, c⟩ <;> rcases k with ⟨a', b', c'⟩ | ⟨a', b', c'⟩ <;> subst_vars
  · exact ⟨rfl, rfl⟩
  · exact absurd a' a
  · exact absurd a a'
  · exact ⟨rfl, rfl⟩
theorem one_cellI (w : World) (x : Int) : ∀ j u, (vals [x])[j]? = some u → (w.alloc (.cells #[.int .i64 x] 3)).cell? ((⟨w.heap.size, 0, none⟩ : Addr).add j) = some u := by
  intro j u hj
  match j, hj with
  | 0, hj => simp [vals] at hj; subst hj; simp [Addr.add]
  | j + 1, hj => simp [vals] at hj

set_option maxRecDepth 100000 in
set_option maxHeartbeats 4000000 in
theorem rstrides_any (p : Option Addr) (cap : Nat) (ds : List Int) (w : World) (h1 : Ints .i64 w p cap ds) :
    Calls Try.prog 12 #[.slice p ds.length cap] w fun e w' => (∃ q c xs er, e = .returned (.tuple #[.slice q xs.length c, .int .i64 er]) ∧ Ints .i64 w' q c xs ∧ StridesR ds xs er) ∧ Below w.heap.size w w' := by
  have hl1 := h1.len
  obtain ⟨i0, hi, hz0, hz1, hz2⟩ := info_parts Try.infoInt
  have HSZ := hide (rsize_any p cap ds w h1)
  obtain ⟨sr0, sr1, sr2, sr3⟩ := size_range ds
  obtain ⟨S, hS⟩ : ∃ S, (sizeV ds).1 = S := ⟨_, rfl⟩
  obtain ⟨E, hE⟩ : ∃ E, (sizeV ds).2 = E := ⟨_, rfl⟩
  have hz := @size_ok ds
  rw [hS, hE] at HSZ
  rw [hE] at sr2 sr3 hz
  have HZ := hide hz
  have HE := hide hE
  have H1 := hide h1
  clear hz hE hS h1 sr0 sr1
  by_cases he : E = 0
  · obtain ⟨hr, h8, hp⟩ := unhide HZ he
    have HR := hide hr
    subst he
    clear hr hp HZ
    go_enter Try.func12, Try.ntmps12
    go_wp2_with fail
    refine (unhide HSZ).mono ?_
    rintro e w1 ⟨rfl, rfl⟩
    go_wp2_with fail
    go_loopw [6, 7] (fun v iv wr => ∃ n : Nat, iv = .int .i64 n ∧ n ≤ ds.length ∧ OwnI w1 wr v ((strideL ds).take n)) (fun _ iv _ => ds.length - (intOf iv).toNat)
    case atStart => exact ⟨0, rfl, by omega, by simpa using OwnI.nil w1⟩
    case round =>
      obtain ⟨n, rfl, hn, hO⟩ := hrel
      have HO := hide hO
      clear hO
      by_cases hlt : n < ds.length
      · obtain ⟨b, o, rfl, hb, hc⟩ := (unhide H1).lies (by omega)
        have hi1 : (n : Int) < (ds.length : Int) := by omega
        have hc' : ∀ i, i < ds.length → wr.cell? ⟨b, o + i, none⟩ = some (.int .i64 (ds.getD i 0)) := fun i hi => ((unhide HO).2.1.cell (p := ⟨b, o + i, none⟩) hb).trans (hc i hi)
        have HC := hide hc'
        clear hc hc'
        go_wp2_with fail
        go_loop [8, 9] (fun nv kv => ∃ k : Nat, ∃ A : Int, kv = .int .i64 k ∧ nv = .int .i64 A ∧ n + 1 ≤ k ∧ k ≤ ds.length ∧ Hid (A = wrap64 (prodL ((ds.take k).drop (n + 1))))) (fun _ kv => ds.length - (intOf kv).toNat)
        case atStart =>
          refine ⟨n + 1, 1, by go_num, rfl, by omega, by omega, hide ?_⟩
          rw [List.drop_of_length_le (by rw [List.length_take]; omega)]; simp [prodL, wrap64]
        case round =>
          obtain ⟨k, A, rfl, rfl, hk1, hk2, HA⟩ := hrel
          by_cases hk : k < ds.length
          · have hki : (k : Int) < (ds.length : Int) := by omega
            have hcell := unhide HC k hk
            have HT := hide (drop_take_succ ds (n + 1) k (by omega) hk)
            generalize ds.getD k 0 = d at hcell HT
            go_wp2_with fail
            go_round
            case rel =>
              refine ⟨k + 1, _, by go_num, rfl, by omega, by omega, hide ?_⟩
              rw [unhide HT, prodL_append, prodL_one, unhide HA, wrap_mul]
            case measure => simp [intOf]; omega
          · have hki : ¬ (k : Int) < (ds.length : Int) := by omega
            have ek : k = ds.length := by omega
            subst ek
            have hA : A = wrap64 (prodL (ds.drop (n + 1))) := by have := unhide HA; rw [List.take_length] at this; exact this
            have hwf : (Lit.int .i64 A).wf = true := by rw [hA]; exact wrap64_wf2 _
            have hown := (unhide HO).1
            have hol : ((strideL ds).take n).length = n := by rw [List.length_take, strideL_length]; omega
            rw [hol] at hown
            have hsz := (unhide HO).2.1.size
            have HA2 := hide hA
            have HWF := hide hwf
            have HOL := hide hol
            clear hA hwf hol HA HC hk1 hk2 hk
            go_wp2_with (at_builtin; refine wpList_append_own _ rfl _ _ 22 rfl w1.heap.size 3 i0 (.int .i64 0) 1 8 Try.underlying22 hi hz0 hz1 hz2 rfl (by decide) _ _ _ rfl (hown.alloc _) ⟨wr.heap.size, 0, none⟩ 1 1 (vals [A]) rfl rfl (one_cellI _ _) (vals_ok _) (by unfold maxLen; omega) (by omega) (by simp; omega) ?_; intro v' w2 hown' hgrow _)
            have O2 : OwnI w1 w2 v' ((strideL ds).take (n + 1)) := by
              rw [strideL_take ds n hlt, ← unhide HA2]
              exact OwnI.more (unhide HO) ((Below.refl _ _).alloc (Nat.le_refl _) _) (unhide HOL).symm rfl (by intro d hd; simp at hd; subst hd; exact unhide HWF) hown' hgrow
            clear hown' hgrow hown
            go_wp2_with fail
            go_roundw
            case rel => exact ⟨n + 1, by go_num, by omega, O2⟩
            case measure => simp [intOf]; omega
      · have hi1 : ¬ (n : Int) < (ds.length : Int) := by omega
        have en : n = ds.length := by omega
        subst en
        obtain ⟨q, c, hv, hI⟩ := (unhide HO).form
        rw [List.take_of_length_le (by rw [strideL_length]; exact Nat.le_refl _)] at hv hI
        subst hv
        have HI := hide hI
        have HB := hide (unhide HO).2.1
        clear hI HO
        go_wp2_with fail
        go_ret2
        exact ⟨⟨q, c, strideL ds, 0, rfl, unhide HI, .inr ⟨unhide HE, rfl, rfl⟩⟩, unhide HB⟩
  · have hen : ((E : Int) != 0) = true := by simp [he]
    have HNE := hide he
    clear HZ he
    go_enter Try.func12, Try.ntmps12
    go_wp2_with fail
    refine (unhide HSZ).mono ?_
    rintro e w1 ⟨rfl, rfl⟩
    go_wp2_with fail
    go_ret2
    exact ⟨⟨none, 0, [], E, rfl, ⟨by simp, by omega, by simp, by simp, fun _ => rfl⟩, .inl ⟨by rw [unhide HE]; exact unhide HNE, rfl, (unhide HE).symm⟩⟩, Below.refl _ _⟩
end Go.Proofs.Ytgobpoaalnpagaa
