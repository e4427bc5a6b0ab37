import Derived.Test.YtgobpoaalnpagaaHC

/-
  Layer 4: the code's strides, places and indices.
-/
namespace Go.Proofs.Ytgobpoaalnpagaa
open Go.RowKit
set_option linter.unusedVariables false

theorem nilI (w : World) : Ints .i64 w none 0 [] := ⟨by simp, by omega, by simp, by simp, fun _ => rfl⟩

theorem strideL_getD (ds : List Int) (n : Nat) (h : n < ds.length) : (strideL ds).getD n 0 = wrap64 (prodL (ds.drop (n + 1))) := by
  rw [List.getD_eq_getElem?_getD, List.getElem?_eq_getElem (by rw [strideL_length]; exact h)]
  simp [strideL]

set_option maxRecDepth 100000 in
set_option maxHeartbeats 4000000 in
theorem cstrides_any (p : Option Addr) (cap : Nat) (ds : List Int) (w : World) (h1 : Ints .i64 w p cap ds) :
    Calls Try.prog 11 #[.slice p ds.length cap] w fun e w' => (∃ q c xs er, e = .returned (.tuple #[.slice q xs.length c, .int .i64 er]) ∧ Ints .i64 w' q c xs ∧ StridesR ds xs er) ∧ Below w.heap.size w w' := by
  have hl1 := h1.len
  obtain ⟨i0, hi, hz0, hz1, hz2⟩ := info_parts Try.infoInt
  have HSZ := hide (csize_any p cap ds w h1)
  obtain ⟨sr0, sr1, sr2, sr3⟩ := size_range ds
  obtain ⟨S, hS⟩ : ∃ S, (sizeV ds).1 = S := ⟨_, rfl⟩
  obtain ⟨E, hE⟩ : ∃ E, (sizeV ds).2 = E := ⟨_, rfl⟩
  have hz := @size_ok ds
  rw [hS, hE] at HSZ
  rw [hE] at sr2 sr3 hz
  have HZ := hide hz
  have HE := hide hE
  have H1 := hide h1
  clear hz hE hS h1 sr0 sr1
  by_cases he : E = 0
  · obtain ⟨hr, h8, hp⟩ := unhide HZ he
    subst he
    clear hr hp HZ
    go_enter Try.func11, Try.ntmps11
    go_wp2_with fail
    refine (unhide HSZ).mono ?_
    rintro e w1 ⟨rfl, rfl⟩
    go_wp2_with (at_make; refine wpList_make_full _ rfl _ _ 22 rfl w1.heap.size 3 i0 (.int .i64 0) 1 Try.underlying22 hi hz0 hz1 _ _ _ _ ds.length rfl rfl (by omega) (by omega) (by rw [hz2]; omega) (by unfold maxLen; omega) (Nat.le_refl _) ?_; intro w2 hown hgrow)
    have HM0 := hide (MadeI.first hown hgrow)
    clear hown hgrow
    go_loopw [7, 8] (fun av iv wr => ∃ n : Nat, ∃ A : Int, ∃ xs : List Int, iv = .int .i64 ((n : Int) - 1) ∧ av = .int .i64 A ∧ n ≤ ds.length ∧ Hid (A = wrap64 (prodL (ds.drop n))) ∧ MadeI w1 wr w1.heap.size ds.length xs ∧
        Hid (∀ i, n ≤ i → i < ds.length → xs.getD i 0 = (strideL ds).getD i 0)) (fun _ iv _ => (intOf iv + 1).toNat)
    case atStart =>
      refine ⟨ds.length, 1, List.replicate ds.length 0, by go_num, rfl, Nat.le_refl _, hide ?_, unhide HM0, hide (fun i h1 h2 => by omega)⟩
      rw [List.drop_length]; simp [prodL, wrap64]
    case round =>
      obtain ⟨n, A, xs, rfl, rfl, hn, HA, hM, HV⟩ := hrel
      have HM := hide hM
      clear hM
      by_cases hlt : 0 < n
      · obtain ⟨j, rfl⟩ : ∃ j, n = j + 1 := ⟨n - 1, by omega⟩
        have hj : j < ds.length := by omega
        have ej : ((j + 1 : Nat) : Int) - 1 = (j : Int) := by omega
        rw [ej]
        obtain ⟨b, o, rfl, hb, hc⟩ := (unhide H1).lies (by omega)
        have hcell : wr.cell? ⟨b, o + j, none⟩ = some (.int .i64 (ds.getD j 0)) := ((unhide HM).2.2.1.cell (p := ⟨b, o + j, none⟩) hb).trans (hc j hj)
        have hge : (0 : Int) ≤ (j : Int) := by omega
        have hji : (j : Int) < (ds.length : Int) := by omega
        have HDR := hide (drop_cons ds j hj)
        have HLX := hide (unhide HM).1
        have hwrs : w1.heap.size < wr.heap.size := ((unhide HM).2.1.lt w1.heap.size rfl).2
        have c3 := (unhide HM).cell j hj
        have z3 : wr.frozen? ⟨w1.heap.size, j, none⟩ = false := (unhide HM).2.1.frozenAt j
        have hne : b ≠ w1.heap.size := by omega
        have HM2 := hide ((unhide HM).stored j A (by rw [unhide HA]; exact wrap64_wf2 _))
        have HV2 : Hid (∀ i, j ≤ i → i < ds.length → (xs.set j A).getD i 0 = (strideL ds).getD i 0) := hide (fun i h1 h2 => by
          rw [getD_set xs j i A (by rw [unhide HLX]; exact hj)]
          split
          · rename_i e; rw [e, strideL_getD ds j hj, unhide HA]
          · exact unhide HV i (by omega) h2)
        clear hc HM HV
        generalize ds.getD j 0 = d at hcell HDR
        go_wp2_with fail
        go_roundw
        case rel =>
          refine ⟨j, _, xs.set j A, by go_num, rfl, by omega, hide ?_, unhide HM2, HV2⟩
          rw [unhide HDR, unhide HA, wrap_mul, Int.mul_comm]
        case measure => simp [intOf]
      · have hn0 : n = 0 := by omega
        subst hn0
        have hneg : ¬ (0 : Int) ≤ ((0 : Nat) : Int) - 1 := by omega
        obtain ⟨q, c, hv, hI⟩ := (unhide HM).own.form
        have hlx : xs.length = ds.length := (unhide HM).1
        have hxs : xs = strideL ds := list_ext_getD (by rw [hlx, strideL_length]) (fun i hi => unhide HV i (by omega) (by omega))
        simp only [Value.slice.injEq] at hv
        obtain ⟨rfl, _, rfl⟩ := hv
        have HI := hide hI
        have HB := hide (unhide HM).2.2.1
        have HLX := hide hlx
        have HXS := hide hxs
        clear hI HM HV HA hlx hxs
        go_wp2_with fail
        go_ret2
        refine ⟨⟨_, _, xs, 0, ?_, unhide HI, .inr ⟨unhide HE, unhide HXS, rfl⟩⟩, unhide HB⟩
        rw [unhide HLX]
        rfl
  · have hen : ((E : Int) != 0) = true := by simp [he]
    have HNE := hide he
    clear HZ he
    go_enter Try.func11, Try.ntmps11
    go_wp2_with fail
    refine (unhide HSZ).mono ?_
    rintro e w1 ⟨rfl, rfl⟩
    go_wp2_with fail
    go_ret2
    exact ⟨⟨none, 0, [], E, rfl, nilI _, .inl ⟨by rw [unhide HE]; exact unhide HNE, rfl, (unhide HE).symm⟩⟩, Below.refl _ _⟩

set_option maxRecDepth 100000 in
set_option maxHeartbeats 2000000 in
/-- The offset of indices that fit. -/
theorem cplace_any (p q : Option Addr) (cap cap' : Nat) (ds ix : List Int) (w : World) (h1 : Ints .i64 w p cap ds) (h2 : Ints .i64 w q cap' ix) (hl : ix.length = ds.length) :
    Calls Try.prog 27 #[.slice p ds.length cap, .slice q ix.length cap'] w fun e w' => e = .returned (.int .i64 (wrap64 (offN ds ix ds.length))) ∧ w' = w := by
  have hl1 := h1.len
  have hl2 := h2.len
  have H1 := hide h1
  have H2 := hide h2
  have HL := hide hl
  clear h1 h2 hl
  go_enter Try.func27, Try.ntmps27
  go_wp2_with fail
  go_loop [5, 10] (fun av iv => ∃ n : Nat, ∃ A : Int, iv = .int .i64 n ∧ av = .int .i64 A ∧ n ≤ ds.length ∧ Hid (A = wrap64 (offN ds ix n))) (fun _ iv => ds.length - (intOf iv).toNat)
  case atStart => exact ⟨0, 0, rfl, rfl, by omega, hide (by simp [offN, wrap64])⟩
  case round =>
    obtain ⟨n, A, rfl, rfl, hn, HA⟩ := hrel
    by_cases hlt : n < ds.length
    · have hlt2 : n < ix.length := by rw [unhide HL]; exact hlt
      obtain ⟨b, o, rfl, hb, hc⟩ := (unhide H1).lies (by omega)
      obtain ⟨b', o', rfl, hb', hc'⟩ := (unhide H2).lies (by omega)
      have hi : (n : Int) < (ds.length : Int) := by omega
      have hi2 : (n : Int) < (ix.length : Int) := by omega
      have c1 := hc n hlt
      have c2 := hc' n hlt2
      have HD : Hid (offN ds ix (n + 1) = offN ds ix n * ds.getD n 0 + ix.getD n 0) := hide rfl
      clear hc hc' hlt2
      generalize ds.getD n 0 = d at c1 HD
      generalize ix.getD n 0 = x at c2 HD
      go_wp2_with fail
      go_round
      case rel =>
        refine ⟨n + 1, _, by go_num, rfl, by omega, hide ?_⟩
        rw [unhide HD, unhide HA]
        exact wrap_step _ _ _
      case measure => simp [intOf]; omega
    · have hi : ¬ (n : Int) < (ds.length : Int) := by omega
      have en : n = ds.length := by omega
      subst en
      go_wp2_with fail
      go_ret
      exact ⟨ret_int (unhide HA), rfl⟩

set_option maxRecDepth 100000 in
set_option maxHeartbeats 4000000 in
theorem coffset_any (p q : Option Addr) (cap cap' : Nat) (ds ix : List Int) (w : World) (h1 : Ints .i64 w p cap ds) (h2 : Ints .i64 w q cap' ix) :
    Calls Try.prog 15 #[.slice p ds.length cap, .slice q ix.length cap'] w fun e w' => (∃ r er, e = .returned (.tuple #[.int .i64 r, .int .i64 er]) ∧ OffsetR ds ix r er) ∧ Below w.heap.size w w' := by
  have hl1 := h1.len
  have hl2 := h2.len
  have HSZ := hide (csize_any p cap ds w h1)
  obtain ⟨sr0, sr1, sr2, sr3⟩ := size_range ds
  obtain ⟨S, hS⟩ : ∃ S, (sizeV ds).1 = S := ⟨_, rfl⟩
  obtain ⟨E, hE⟩ : ∃ E, (sizeV ds).2 = E := ⟨_, rfl⟩
  have hz := @size_ok ds
  rw [hS, hE] at HSZ
  rw [hE] at sr2 sr3 hz
  have HZ := hide hz
  have HE := hide hE
  have H1 := hide h1
  have H2 := hide h2
  clear hz hE hS h1 h2 sr0 sr1
  by_cases he : E = 0
  · by_cases hl : ix.length = ds.length
    · have hli : ((ix.length : Int) != (ds.length : Int)) = false := by simp [hl]
      obtain ⟨hr, h8, hp⟩ := unhide HZ he
      have HR := hide hr
      have HP := hide hp
      have HL := hide hl
      subst he
      clear hr hp HZ hl
      go_enter Try.func15, Try.ntmps15
      go_wp2_with fail
      refine (unhide HSZ).mono ?_
      rintro e w1 ⟨rfl, rfl⟩
      go_wp2_with fail
      clear hli
      go_loop [25] (fun iv => ∃ n : Nat, iv = .int .i64 n ∧ n ≤ ds.length ∧ Hid (∀ i, i < n → 0 ≤ ix.getD i 0 ∧ ix.getD i 0 < ds.getD i 0)) (fun iv => ds.length - (intOf iv).toNat)
      case atStart => exact ⟨0, rfl, by omega, hide (fun i hi => by omega)⟩
      case round =>
        obtain ⟨n, rfl, hn, HV⟩ := hrel
        by_cases hlt : n < ds.length
        · have hlt2 : n < ix.length := by rw [unhide HL]; exact hlt
          obtain ⟨b, o, rfl, hb, hc⟩ := (unhide H1).lies (by omega)
          obtain ⟨b', o', rfl, hb', hc'⟩ := (unhide H2).lies (by omega)
          have hi : (n : Int) < (ds.length : Int) := by omega
          have hi2 : (n : Int) < (ix.length : Int) := by omega
          have c1 := hc n hlt
          have c2 := hc' n hlt2
          have HNI : Hid (¬ (0 ≤ ix.getD n 0 ∧ ix.getD n 0 < ds.getD n 0) → ¬ inR ds ix) := hide (fun h k => h (k n hlt))
          have HV2 : Hid ((0 ≤ ix.getD n 0 ∧ ix.getD n 0 < ds.getD n 0) → ∀ i, i < n + 1 → 0 ≤ ix.getD i 0 ∧ ix.getD i 0 < ds.getD i 0) := hide (fun h i hi => by
            rcases Nat.lt_or_ge i n with g | g
            · exact unhide HV i g
            · have : i = n := by omega
              subst this; exact h)
          clear hc hc' hlt2 HV
          generalize ds.getD n 0 = d at c1 HNI HV2
          generalize ix.getD n 0 = x at c2 HNI HV2
          by_cases hx : 0 ≤ x ∧ x < d
          · have HV3 := hide (unhide HV2 hx)
            have HX := hide hx
            clear HNI HV2 hx
            go_wp2_with fail
            refine (within_yes _ _ _ (unhide HX).1 (unhide HX).2).mono ?_
            rintro e w2 ⟨rfl, rfl⟩
            go_wp2_with fail
            go_round
            case rel => exact ⟨n + 1, by go_num, by omega, HV3⟩
            case measure => simp [intOf]; omega
          · have HNO := hide (unhide HNI hx)
            have HX := hide hx
            clear HNI HV2 hx
            go_wp2_with fail
            refine (within_no _ _ _ (by have := unhide HX; omega)).mono ?_
            rintro e w2 ⟨rfl, rfl⟩
            go_wp2_with fail
            go_ret2
            exact ⟨⟨_, _, rfl, .inr (.inl ⟨unhide HE, .inr (unhide HNO), rfl, rfl⟩)⟩, Below.refl _ _⟩
        · have hi : ¬ (n : Int) < (ds.length : Int) := by omega
          have en : n = ds.length := by omega
          subst en
          have hin : inR ds ix := unhide HV
          have hb : wrap64 (offN ds ix ds.length) = offN ds ix ds.length := by
            rcases unhide HP with ⟨z, _⟩ | ⟨z, p4, _⟩
            · exfalso
              obtain ⟨i, hi, e⟩ := List.getElem_of_mem z
              have := hin i hi
              have e2 : ds.getD i 0 = 0 := by rw [← e]; simp [List.getElem?_eq_getElem hi]
              omega
            · have hp : ∀ d ∈ ds, 1 ≤ d := fun d hd => by have := unhide HR d hd; have : d ≠ 0 := fun e => z (e ▸ hd); omega
              obtain ⟨o1, o2⟩ := offN_lt hp hin ds.length (Nat.le_refl _)
              rw [List.take_length] at o2
              unfold wrap64; omega
          have HCP := hide (cplace_any p q cap cap' ds ix w1 (unhide H1) (unhide H2) (unhide HL))
          rw [hb] at HCP
          have HIN := hide hin
          clear hb hin
          go_wp2_with fail
          refine (unhide HCP).mono ?_
          rintro e w2 ⟨rfl, rfl⟩
          go_wp2_with fail
          go_ret2
          exact ⟨⟨_, _, rfl, .inr (.inr ⟨unhide HE, unhide HL, unhide HIN, rfl, rfl⟩)⟩, Below.refl _ _⟩
    · have hli : ((ix.length : Int) == (ds.length : Int)) = false := by simp; omega
      have HL := hide hl
      subst he
      clear HZ hl
      go_enter Try.func15, Try.ntmps15
      go_wp2_with fail
      refine (unhide HSZ).mono ?_
      rintro e w1 ⟨rfl, rfl⟩
      go_wp2_with fail
      go_ret2
      exact ⟨⟨_, _, rfl, .inr (.inl ⟨unhide HE, .inl (unhide HL), rfl, rfl⟩)⟩, Below.refl _ _⟩
  · have hen : ((E : Int) == 0) = false := by simp [he]
    have HNE := hide he
    clear HZ he
    go_enter Try.func15, Try.ntmps15
    go_wp2_with fail
    refine (unhide HSZ).mono ?_
    rintro e w1 ⟨rfl, rfl⟩
    go_wp2_with fail
    go_ret2
    exact ⟨⟨_, _, rfl, .inl ⟨by rw [unhide HE]; exact unhide HNE, rfl, (unhide HE).symm⟩⟩, Below.refl _ _⟩
end Go.Proofs.Ytgobpoaalnpagaa
