/-
  The walk of the document's rounding.
-/
import Derived.Test.YtkbniebahledmaaWkR
namespace Go.Proofs.Ytkbniebahledmaa
open Go.RowKit
set_option linter.unusedVariables false

set_option maxRecDepth 100000 in
set_option maxHeartbeats 2000000 in
theorem rounded_1_false (p q : Value) (P Q K : Nat) (hK : K ≤ 400) (hQ : 0 < Q) (w : World) (hp : Num w p P K) (hq : Num w q Q K) :
    Calls Try.prog 37 #[.int .i64 1, .bool false, p, q] w fun e w' => (∃ r : Nat, e = .returned (.int .u32 (Flt.signBit false + (r : Int))) ∧ Flt.RN 1 false P Q r) ∧ Below w.heap.size w w' := by
  have HP := hide hp
  have HQ := hide hq
  clear hp hq
  go_enter Try.func37, Try.ntmps37
  go_wp2_with fail
  refine (least_any p q P Q K (by omega) hQ _ (unhide HP) (unhide HQ)).mono ?_
  rintro e x1 ⟨⟨m, rfl, hfl⟩, hb1⟩
  have hm := hfl.1
  have HF := hide hfl
  clear hfl
  go_wp2_with fail
  refine (amount_any m (by omega) _).mono ?_
  rintro e x2 ⟨⟨v2, rfl, hv2⟩, hb2⟩
  have hbel2 := bl_tr hb1 hb2
  go_wp2_with fail
  refine (times_any v2 q _ Q 12 K (by omega) (by omega) _ hv2 ((unhide HQ).below hbel2)).mono ?_
  rintro e x3 ⟨⟨v3, rfl, hv3⟩, hb3⟩
  have hbel3 := bl_tr hbel2 hb3
  go_wp2_with fail
  refine (compare_any v3 p _ P (12 + K) (by omega) _ hv3 (((unhide HP).below hbel3).le (by omega))).mono ?_
  rintro e x4 ⟨rfl, hb4⟩
  have hbel4 := bl_tr hbel3 hb4
  have hcz := cmpN_eq (Flt.A m * Q) P
  generalize cmpN (Flt.A m * Q) P = c at hcz ⊢
  have HCZ := hide hcz
  clear hcz hv2 hv3 hb1 hb2 hb3 hb4
  by_cases hI : m = 2139095040
  · subst hI
    go_wp2_with fail
    go_ret
    refine ⟨⟨2139095040, ret_int ?_, 2139095040, unhide HF, ?_⟩, hbel4⟩
    · simp [Flt.signBit]
    · have hiw : Flt.inW 1 false = false := by rfl
      unfold Flt.pick; rw [if_pos rfl]; simp [hiw]
  · have hI' : ((m : Int) == 2139095040) = false := by simp; omega
    by_cases hx : c = 0
    · have hx' : (c == 0) = true := by simp [hx]
      have hA := (unhide HCZ).1 hx
      have HA := hide hA
      clear hx hA
      go_wp2_with fail
      go_ret
      refine ⟨⟨m, ret_int ?_, m, unhide HF, ?_⟩, hbel4⟩
      · simp [Flt.signBit]
      · unfold Flt.pick; rw [if_neg hI, if_pos (.inl (unhide HA))]
    · have hx' : (c == 0) = false := by simp [hx]
      have hA : ¬ Flt.A m * Q = P := fun h => hx ((unhide HCZ).2 h)
      have HA := hide hA
      clear hx hA
      go_wp2_with fail
      go_ret
      refine ⟨⟨m + 1, ret_int ?_, m, unhide HF, ?_⟩, hbel4⟩
      · first | (simp [Flt.signBit]; done) | (simp [Flt.signBit]; omega)
      · have hiw : Flt.inW 1 false = false := by rfl
        have how : Flt.outW 1 false = true := by rfl
        unfold Flt.pick; rw [if_neg hI, if_neg (by rw [hiw]; exact fun h => h.elim (unhide HA) (by simp)), if_pos how]

set_option maxRecDepth 100000 in
set_option maxHeartbeats 2000000 in
theorem rounded_1_true (p q : Value) (P Q K : Nat) (hK : K ≤ 400) (hQ : 0 < Q) (w : World) (hp : Num w p P K) (hq : Num w q Q K) :
    Calls Try.prog 37 #[.int .i64 1, .bool true, p, q] w fun e w' => (∃ r : Nat, e = .returned (.int .u32 (Flt.signBit true + (r : Int))) ∧ Flt.RN 1 true P Q r) ∧ Below w.heap.size w w' := by
  have HP := hide hp
  have HQ := hide hq
  clear hp hq
  go_enter Try.func37, Try.ntmps37
  go_wp2_with fail
  refine (least_any p q P Q K (by omega) hQ _ (unhide HP) (unhide HQ)).mono ?_
  rintro e x1 ⟨⟨m, rfl, hfl⟩, hb1⟩
  have hm := hfl.1
  have HF := hide hfl
  clear hfl
  go_wp2_with fail
  refine (amount_any m (by omega) _).mono ?_
  rintro e x2 ⟨⟨v2, rfl, hv2⟩, hb2⟩
  have hbel2 := bl_tr hb1 hb2
  go_wp2_with fail
  refine (times_any v2 q _ Q 12 K (by omega) (by omega) _ hv2 ((unhide HQ).below hbel2)).mono ?_
  rintro e x3 ⟨⟨v3, rfl, hv3⟩, hb3⟩
  have hbel3 := bl_tr hbel2 hb3
  go_wp2_with fail
  refine (compare_any v3 p _ P (12 + K) (by omega) _ hv3 (((unhide HP).below hbel3).le (by omega))).mono ?_
  rintro e x4 ⟨rfl, hb4⟩
  have hbel4 := bl_tr hbel3 hb4
  have hcz := cmpN_eq (Flt.A m * Q) P
  generalize cmpN (Flt.A m * Q) P = c at hcz ⊢
  have HCZ := hide hcz
  clear hcz hv2 hv3 hb1 hb2 hb3 hb4
  by_cases hI : m = 2139095040
  · subst hI
    go_wp2_with fail
    go_ret
    refine ⟨⟨2139095039, ret_int ?_, 2139095040, unhide HF, ?_⟩, hbel4⟩
    · simp [Flt.signBit]
    · have hiw : Flt.inW 1 true = true := by rfl
      unfold Flt.pick; rw [if_pos rfl]; simp [hiw]
  · have hI' : ((m : Int) == 2139095040) = false := by simp; omega
    by_cases hx : c = 0
    · have hx' : (c == 0) = true := by simp [hx]
      clear hx
      go_wp2_with fail
      go_ret
      refine ⟨⟨m, ret_int ?_, m, unhide HF, ?_⟩, hbel4⟩
      · simp [Flt.signBit]
      · have hiw : Flt.inW 1 true = true := by rfl
        unfold Flt.pick; rw [if_neg hI, if_pos (.inr hiw)]
    · have hx' : (c == 0) = false := by simp [hx]
      clear hx
      go_wp2_with fail
      go_ret
      refine ⟨⟨m, ret_int ?_, m, unhide HF, ?_⟩, hbel4⟩
      · simp [Flt.signBit]
      · have hiw : Flt.inW 1 true = true := by rfl
        unfold Flt.pick; rw [if_neg hI, if_pos (.inr hiw)]

set_option maxRecDepth 100000 in
set_option maxHeartbeats 2000000 in
theorem rounded_2_false (p q : Value) (P Q K : Nat) (hK : K ≤ 400) (hQ : 0 < Q) (w : World) (hp : Num w p P K) (hq : Num w q Q K) :
    Calls Try.prog 37 #[.int .i64 2, .bool false, p, q] w fun e w' => (∃ r : Nat, e = .returned (.int .u32 (Flt.signBit false + (r : Int))) ∧ Flt.RN 2 false P Q r) ∧ Below w.heap.size w w' := by
  have HP := hide hp
  have HQ := hide hq
  clear hp hq
  go_enter Try.func37, Try.ntmps37
  go_wp2_with fail
  refine (least_any p q P Q K (by omega) hQ _ (unhide HP) (unhide HQ)).mono ?_
  rintro e x1 ⟨⟨m, rfl, hfl⟩, hb1⟩
  have hm := hfl.1
  have HF := hide hfl
  clear hfl
  go_wp2_with fail
  refine (amount_any m (by omega) _).mono ?_
  rintro e x2 ⟨⟨v2, rfl, hv2⟩, hb2⟩
  have hbel2 := bl_tr hb1 hb2
  go_wp2_with fail
  refine (times_any v2 q _ Q 12 K (by omega) (by omega) _ hv2 ((unhide HQ).below hbel2)).mono ?_
  rintro e x3 ⟨⟨v3, rfl, hv3⟩, hb3⟩
  have hbel3 := bl_tr hbel2 hb3
  go_wp2_with fail
  refine (compare_any v3 p _ P (12 + K) (by omega) _ hv3 (((unhide HP).below hbel3).le (by omega))).mono ?_
  rintro e x4 ⟨rfl, hb4⟩
  have hbel4 := bl_tr hbel3 hb4
  have hcz := cmpN_eq (Flt.A m * Q) P
  generalize cmpN (Flt.A m * Q) P = c at hcz ⊢
  have HCZ := hide hcz
  clear hcz hv2 hv3 hb1 hb2 hb3 hb4
  by_cases hI : m = 2139095040
  · subst hI
    go_wp2_with fail
    go_ret
    refine ⟨⟨2139095039, ret_int ?_, 2139095040, unhide HF, ?_⟩, hbel4⟩
    · simp [Flt.signBit]
    · have hiw : Flt.inW 2 false = true := by rfl
      unfold Flt.pick; rw [if_pos rfl]; simp [hiw]
  · have hI' : ((m : Int) == 2139095040) = false := by simp; omega
    by_cases hx : c = 0
    · have hx' : (c == 0) = true := by simp [hx]
      clear hx
      go_wp2_with fail
      go_ret
      refine ⟨⟨m, ret_int ?_, m, unhide HF, ?_⟩, hbel4⟩
      · simp [Flt.signBit]
      · have hiw : Flt.inW 2 false = true := by rfl
        unfold Flt.pick; rw [if_neg hI, if_pos (.inr hiw)]
    · have hx' : (c == 0) = false := by simp [hx]
      clear hx
      go_wp2_with fail
      go_ret
      refine ⟨⟨m, ret_int ?_, m, unhide HF, ?_⟩, hbel4⟩
      · simp [Flt.signBit]
      · have hiw : Flt.inW 2 false = true := by rfl
        unfold Flt.pick; rw [if_neg hI, if_pos (.inr hiw)]

set_option maxRecDepth 100000 in
set_option maxHeartbeats 2000000 in
theorem rounded_2_true (p q : Value) (P Q K : Nat) (hK : K ≤ 400) (hQ : 0 < Q) (w : World) (hp : Num w p P K) (hq : Num w q Q K) :
    Calls Try.prog 37 #[.int .i64 2, .bool true, p, q] w fun e w' => (∃ r : Nat, e = .returned (.int .u32 (Flt.signBit true + (r : Int))) ∧ Flt.RN 2 true P Q r) ∧ Below w.heap.size w w' := by
  have HP := hide hp
  have HQ := hide hq
  clear hp hq
  go_enter Try.func37, Try.ntmps37
  go_wp2_with fail
  refine (least_any p q P Q K (by omega) hQ _ (unhide HP) (unhide HQ)).mono ?_
  rintro e x1 ⟨⟨m, rfl, hfl⟩, hb1⟩
  have hm := hfl.1
  have HF := hide hfl
  clear hfl
  go_wp2_with fail
  refine (amount_any m (by omega) _).mono ?_
  rintro e x2 ⟨⟨v2, rfl, hv2⟩, hb2⟩
  have hbel2 := bl_tr hb1 hb2
  go_wp2_with fail
  refine (times_any v2 q _ Q 12 K (by omega) (by omega) _ hv2 ((unhide HQ).below hbel2)).mono ?_
  rintro e x3 ⟨⟨v3, rfl, hv3⟩, hb3⟩
  have hbel3 := bl_tr hbel2 hb3
  go_wp2_with fail
  refine (compare_any v3 p _ P (12 + K) (by omega) _ hv3 (((unhide HP).below hbel3).le (by omega))).mono ?_
  rintro e x4 ⟨rfl, hb4⟩
  have hbel4 := bl_tr hbel3 hb4
  have hcz := cmpN_eq (Flt.A m * Q) P
  generalize cmpN (Flt.A m * Q) P = c at hcz ⊢
  have HCZ := hide hcz
  clear hcz hv2 hv3 hb1 hb2 hb3 hb4
  by_cases hI : m = 2139095040
  · subst hI
    go_wp2_with fail
    go_ret
    refine ⟨⟨2139095040, ret_int ?_, 2139095040, unhide HF, ?_⟩, hbel4⟩
    · simp [Flt.signBit]
    · have hiw : Flt.inW 2 true = false := by rfl
      unfold Flt.pick; rw [if_pos rfl]; simp [hiw]
  · have hI' : ((m : Int) == 2139095040) = false := by simp; omega
    by_cases hx : c = 0
    · have hx' : (c == 0) = true := by simp [hx]
      have hA := (unhide HCZ).1 hx
      have HA := hide hA
      clear hx hA
      go_wp2_with fail
      go_ret
      refine ⟨⟨m, ret_int ?_, m, unhide HF, ?_⟩, hbel4⟩
      · simp [Flt.signBit]
      · unfold Flt.pick; rw [if_neg hI, if_pos (.inl (unhide HA))]
    · have hx' : (c == 0) = false := by simp [hx]
      have hA : ¬ Flt.A m * Q = P := fun h => hx ((unhide HCZ).2 h)
      have HA := hide hA
      clear hx hA
      go_wp2_with fail
      go_ret
      refine ⟨⟨m + 1, ret_int ?_, m, unhide HF, ?_⟩, hbel4⟩
      · first | (simp [Flt.signBit]; done) | (simp [Flt.signBit]; omega)
      · have hiw : Flt.inW 2 true = false := by rfl
        have how : Flt.outW 2 true = true := by rfl
        unfold Flt.pick; rw [if_neg hI, if_neg (by rw [hiw]; exact fun h => h.elim (unhide HA) (by simp)), if_pos how]

set_option maxRecDepth 100000 in
set_option maxHeartbeats 2000000 in
theorem rounded_o_false (way : Int) (w1 : (way == 1) = false) (w2 : (way == 2) = false) (p q : Value) (P Q K : Nat) (hK : K ≤ 400) (hQ : 0 < Q) (w : World) (hp : Num w p P K) (hq : Num w q Q K) :
    Calls Try.prog 37 #[.int .i64 way, .bool false, p, q] w fun e w' => (∃ r : Nat, e = .returned (.int .u32 (Flt.signBit false + (r : Int))) ∧ Flt.RN way false P Q r) ∧ Below w.heap.size w w' := by
  have HP := hide hp
  have HQ := hide hq
  clear hp hq
  go_enter Try.func37, Try.ntmps37
  go_wp2_with fail
  refine (least_any p q P Q K (by omega) hQ _ (unhide HP) (unhide HQ)).mono ?_
  rintro e x1 ⟨⟨m, rfl, hfl⟩, hb1⟩
  have hm := hfl.1
  have HF := hide hfl
  clear hfl
  go_wp2_with fail
  refine (amount_any m (by omega) _).mono ?_
  rintro e x2 ⟨⟨v2, rfl, hv2⟩, hb2⟩
  have hbel2 := bl_tr hb1 hb2
  go_wp2_with fail
  refine (times_any v2 q _ Q 12 K (by omega) (by omega) _ hv2 ((unhide HQ).below hbel2)).mono ?_
  rintro e x3 ⟨⟨v3, rfl, hv3⟩, hb3⟩
  have hbel3 := bl_tr hbel2 hb3
  go_wp2_with fail
  refine (compare_any v3 p _ P (12 + K) (by omega) _ hv3 (((unhide HP).below hbel3).le (by omega))).mono ?_
  rintro e x4 ⟨rfl, hb4⟩
  have hbel4 := bl_tr hbel3 hb4
  have hcz := cmpN_eq (Flt.A m * Q) P
  generalize cmpN (Flt.A m * Q) P = c at hcz ⊢
  have HCZ := hide hcz
  clear hcz hv2 hv3 hb1 hb2 hb3 hb4
  by_cases hI : m = 2139095040
  · subst hI
    go_wp2_with fail
    go_ret
    refine ⟨⟨2139095040, ret_int ?_, 2139095040, unhide HF, ?_⟩, hbel4⟩
    · simp [Flt.signBit]
    · have hiw : Flt.inW way false = false := by unfold Flt.inW; simp [WalkArith.int_ne w1, WalkArith.int_ne w2]
      unfold Flt.pick; rw [if_pos rfl]; simp [hiw]
  · have hI' : ((m : Int) == 2139095040) = false := by simp; omega
    by_cases hx : c = 0
    · have hx' : (c == 0) = true := by simp [hx]
      have hA := (unhide HCZ).1 hx
      have HA := hide hA
      clear hx hA
      go_wp2_with fail
      go_ret
      refine ⟨⟨m, ret_int ?_, m, unhide HF, ?_⟩, hbel4⟩
      · simp [Flt.signBit]
      · unfold Flt.pick; rw [if_neg hI, if_pos (.inl (unhide HA))]
    · have hx' : (c == 0) = false := by simp [hx]
      have hA : ¬ Flt.A m * Q = P := fun h => hx ((unhide HCZ).2 h)
      have HA := hide hA
      clear hx hA
      go_wp2_with fail
      refine (amount_any m (by omega) _).mono ?_
      rintro e x5 ⟨⟨v5, rfl, hv5⟩, hb5⟩
      have hbel5 := bl_tr hbel4 hb5
      go_wp2_with fail
      rw [show (m : Int) + 1 = ((m + 1 : Nat) : Int) by omega]
      refine (amount_any (m + 1) (by omega) _).mono ?_
      rintro e x6 ⟨⟨v6, rfl, hv6⟩, hb6⟩
      have hbel6 := bl_tr hbel5 hb6
      go_wp2_with fail
      refine (plus_any v5 v6 _ _ 12 (by omega) _ (hv5.below hb6) hv6 (by have := Flt.A_lt_succ m; omega)).mono ?_
      rintro e x7 ⟨⟨v7, rfl, hv7⟩, hb7⟩
      have hbel7 := bl_tr hbel6 hb7
      go_wp2_with fail
      refine (times_any v7 q _ Q 13 K (by omega) (by omega) _ hv7 ((unhide HQ).below hbel7)).mono ?_
      rintro e x8 ⟨⟨v8, rfl, hv8⟩, hb8⟩
      have hbel8 := bl_tr hbel7 hb8
      go_wp2_with fail
      refine (twice_any p P K 1 (by omega) (by omega) _ ((unhide HP).below hbel8)).mono ?_
      rintro e x9 ⟨⟨v9, rfl, hv9⟩, hb9⟩
      have hbel9 := bl_tr hbel8 hb9
      go_wp2_with fail
      refine (compare_any v8 v9 _ _ (14 + K) (by omega) _ ((hv8.below hb9).le (by omega)) (hv9.le (by omega))).mono ?_
      rintro e x10 ⟨rfl, hb10⟩
      have hbel10 := bl_tr hbel9 hb10
      have hc1 := cmpN_lt ((Flt.A m + Flt.A (m + 1)) * Q) (P * 2 ^ 1)
      have hc2 := cmpN_eq ((Flt.A m + Flt.A (m + 1)) * Q) (P * 2 ^ 1)
      generalize cmpN ((Flt.A m + Flt.A (m + 1)) * Q) (P * 2 ^ 1) = d at hc1 hc2 ⊢
      rw [show P * 2 ^ 1 = 2 * P by omega] at hc1 hc2
      have HC1 := hide hc1
      have HC2 := hide hc2
      clear hc1 hc2 hv5 hv6 hv7 hv8 hv9 hb5 hb6 hb7 hb8 hb9 hb10
      have hiw : Flt.inW way false = false := by unfold Flt.inW; simp [WalkArith.int_ne w1, WalkArith.int_ne w2]
      have how : Flt.outW way false = false := by unfold Flt.outW; simp [WalkArith.int_ne w1, WalkArith.int_ne w2]
      have pk : ∀ u : Prop, ∀ [Decidable u], (u ↔ ((Flt.A m + Flt.A (m + 1)) * Q < 2 * P ∨ ((Flt.A m + Flt.A (m + 1)) * Q = 2 * P ∧ m % 2 = 1))) → Flt.pick way false P Q m = if u then m + 1 else m := by
        intro u _ hu
        unfold Flt.pick
        rw [if_neg hI, if_neg (by rw [hiw]; exact fun h => h.elim (unhide HA) (by simp)), if_neg (by rw [how]; simp)]
        by_cases hq : u
        · rw [if_pos hq, if_pos (hu.1 hq)]
        · rw [if_neg hq, if_neg (fun h => hq (hu.2 h))]
      have PK := hide pk
      clear pk hiw how
      rcases Int.lt_trichotomy d 0 with hd | hd | hd
      · go_wp2_with fail
        go_ret
        refine ⟨⟨m + 1, ret_int ?_, m, unhide HF, ?_⟩, hbel10⟩
        · first | (simp [Flt.signBit]; done) | (simp [Flt.signBit]; omega)
        · rw [unhide PK True (by simp; exact .inl ((unhide HC1).1 hd))]; simp
      · have hd0 : (d == 0) = true := by simp [hd]
        have hd1 : ¬ d < 0 := by omega
        have HD := hide hd
        clear hd
        by_cases hodd : m % 2 = 1
        · have ho : ((m : Int) % 2 == 1) = true := by simp; omega
          go_wp2_with fail
          go_ret
          refine ⟨⟨m + 1, ret_int ?_, m, unhide HF, ?_⟩, hbel10⟩
          · first | (simp [Flt.signBit]; done) | (simp [Flt.signBit]; omega)
          · rw [unhide PK True (by simp; exact .inr ⟨(unhide HC2).1 (unhide HD), hodd⟩)]; simp
        · have ho : ((m : Int) % 2 == 1) = false := by simp; omega
          go_wp2_with fail
          go_ret
          refine ⟨⟨m, ret_int ?_, m, unhide HF, ?_⟩, hbel10⟩
          · simp [Flt.signBit]
          · rw [unhide PK False ⟨fun h => h.elim, fun h => ?_⟩]; simp
            rcases h with h | ⟨_, h⟩
            · have := (unhide HC2).1 (unhide HD); omega
            · exact hodd h
      · have hd0 : (d == 0) = false := by simp; omega
        have hd1 : ¬ d < 0 := by omega
        go_wp2_with fail
        go_ret
        refine ⟨⟨m, ret_int ?_, m, unhide HF, ?_⟩, hbel10⟩
        · simp [Flt.signBit]
        · rw [unhide PK False ⟨fun h => h.elim, fun h => ?_⟩]; simp
          rcases h with h | ⟨h, _⟩
          · have := (unhide HC1).2 h; omega
          · have := (unhide HC2).2 h; omega

set_option maxRecDepth 100000 in
set_option maxHeartbeats 2000000 in
theorem rounded_o_true (way : Int) (w1 : (way == 1) = false) (w2 : (way == 2) = false) (p q : Value) (P Q K : Nat) (hK : K ≤ 400) (hQ : 0 < Q) (w : World) (hp : Num w p P K) (hq : Num w q Q K) :
    Calls Try.prog 37 #[.int .i64 way, .bool true, p, q] w fun e w' => (∃ r : Nat, e = .returned (.int .u32 (Flt.signBit true + (r : Int))) ∧ Flt.RN way true P Q r) ∧ Below w.heap.size w w' := by
  have HP := hide hp
  have HQ := hide hq
  clear hp hq
  go_enter Try.func37, Try.ntmps37
  go_wp2_with fail
  refine (least_any p q P Q K (by omega) hQ _ (unhide HP) (unhide HQ)).mono ?_
  rintro e x1 ⟨⟨m, rfl, hfl⟩, hb1⟩
  have hm := hfl.1
  have HF := hide hfl
  clear hfl
  go_wp2_with fail
  refine (amount_any m (by omega) _).mono ?_
  rintro e x2 ⟨⟨v2, rfl, hv2⟩, hb2⟩
  have hbel2 := bl_tr hb1 hb2
  go_wp2_with fail
  refine (times_any v2 q _ Q 12 K (by omega) (by omega) _ hv2 ((unhide HQ).below hbel2)).mono ?_
  rintro e x3 ⟨⟨v3, rfl, hv3⟩, hb3⟩
  have hbel3 := bl_tr hbel2 hb3
  go_wp2_with fail
  refine (compare_any v3 p _ P (12 + K) (by omega) _ hv3 (((unhide HP).below hbel3).le (by omega))).mono ?_
  rintro e x4 ⟨rfl, hb4⟩
  have hbel4 := bl_tr hbel3 hb4
  have hcz := cmpN_eq (Flt.A m * Q) P
  generalize cmpN (Flt.A m * Q) P = c at hcz ⊢
  have HCZ := hide hcz
  clear hcz hv2 hv3 hb1 hb2 hb3 hb4
  by_cases hI : m = 2139095040
  · subst hI
    go_wp2_with fail
    go_ret
    refine ⟨⟨2139095040, ret_int ?_, 2139095040, unhide HF, ?_⟩, hbel4⟩
    · simp [Flt.signBit]
    · have hiw : Flt.inW way true = false := by unfold Flt.inW; simp [WalkArith.int_ne w1, WalkArith.int_ne w2]
      unfold Flt.pick; rw [if_pos rfl]; simp [hiw]
  · have hI' : ((m : Int) == 2139095040) = false := by simp; omega
    by_cases hx : c = 0
    · have hx' : (c == 0) = true := by simp [hx]
      have hA := (unhide HCZ).1 hx
      have HA := hide hA
      clear hx hA
      go_wp2_with fail
      go_ret
      refine ⟨⟨m, ret_int ?_, m, unhide HF, ?_⟩, hbel4⟩
      · simp [Flt.signBit]
      · unfold Flt.pick; rw [if_neg hI, if_pos (.inl (unhide HA))]
    · have hx' : (c == 0) = false := by simp [hx]
      have hA : ¬ Flt.A m * Q = P := fun h => hx ((unhide HCZ).2 h)
      have HA := hide hA
      clear hx hA
      go_wp2_with fail
      refine (amount_any m (by omega) _).mono ?_
      rintro e x5 ⟨⟨v5, rfl, hv5⟩, hb5⟩
      have hbel5 := bl_tr hbel4 hb5
      go_wp2_with fail
      rw [show (m : Int) + 1 = ((m + 1 : Nat) : Int) by omega]
      refine (amount_any (m + 1) (by omega) _).mono ?_
      rintro e x6 ⟨⟨v6, rfl, hv6⟩, hb6⟩
      have hbel6 := bl_tr hbel5 hb6
      go_wp2_with fail
      refine (plus_any v5 v6 _ _ 12 (by omega) _ (hv5.below hb6) hv6 (by have := Flt.A_lt_succ m; omega)).mono ?_
      rintro e x7 ⟨⟨v7, rfl, hv7⟩, hb7⟩
      have hbel7 := bl_tr hbel6 hb7
      go_wp2_with fail
      refine (times_any v7 q _ Q 13 K (by omega) (by omega) _ hv7 ((unhide HQ).below hbel7)).mono ?_
      rintro e x8 ⟨⟨v8, rfl, hv8⟩, hb8⟩
      have hbel8 := bl_tr hbel7 hb8
      go_wp2_with fail
      refine (twice_any p P K 1 (by omega) (by omega) _ ((unhide HP).below hbel8)).mono ?_
      rintro e x9 ⟨⟨v9, rfl, hv9⟩, hb9⟩
      have hbel9 := bl_tr hbel8 hb9
      go_wp2_with fail
      refine (compare_any v8 v9 _ _ (14 + K) (by omega) _ ((hv8.below hb9).le (by omega)) (hv9.le (by omega))).mono ?_
      rintro e x10 ⟨rfl, hb10⟩
      have hbel10 := bl_tr hbel9 hb10
      have hc1 := cmpN_lt ((Flt.A m + Flt.A (m + 1)) * Q) (P * 2 ^ 1)
      have hc2 := cmpN_eq ((Flt.A m + Flt.A (m + 1)) * Q) (P * 2 ^ 1)
      generalize cmpN ((Flt.A m + Flt.A (m + 1)) * Q) (P * 2 ^ 1) = d at hc1 hc2 ⊢
      rw [show P * 2 ^ 1 = 2 * P by omega] at hc1 hc2
      have HC1 := hide hc1
      have HC2 := hide hc2
      clear hc1 hc2 hv5 hv6 hv7 hv8 hv9 hb5 hb6 hb7 hb8 hb9 hb10
      have hiw : Flt.inW way true = false := by unfold Flt.inW; simp [WalkArith.int_ne w1, WalkArith.int_ne w2]
      have how : Flt.outW way true = false := by unfold Flt.outW; simp [WalkArith.int_ne w1, WalkArith.int_ne w2]
      have pk : ∀ u : Prop, ∀ [Decidable u], (u ↔ ((Flt.A m + Flt.A (m + 1)) * Q < 2 * P ∨ ((Flt.A m + Flt.A (m + 1)) * Q = 2 * P ∧ m % 2 = 1))) → Flt.pick way true P Q m = if u then m + 1 else m := by
        intro u _ hu
        unfold Flt.pick
        rw [if_neg hI, if_neg (by rw [hiw]; exact fun h => h.elim (unhide HA) (by simp)), if_neg (by rw [how]; simp)]
        by_cases hq : u
        · rw [if_pos hq, if_pos (hu.1 hq)]
        · rw [if_neg hq, if_neg (fun h => hq (hu.2 h))]
      have PK := hide pk
      clear pk hiw how
      rcases Int.lt_trichotomy d 0 with hd | hd | hd
      · go_wp2_with fail
        go_ret
        refine ⟨⟨m + 1, ret_int ?_, m, unhide HF, ?_⟩, hbel10⟩
        · first | (simp [Flt.signBit]; done) | (simp [Flt.signBit]; omega)
        · rw [unhide PK True (by simp; exact .inl ((unhide HC1).1 hd))]; simp
      · have hd0 : (d == 0) = true := by simp [hd]
        have hd1 : ¬ d < 0 := by omega
        have HD := hide hd
        clear hd
        by_cases hodd : m % 2 = 1
        · have ho : ((m : Int) % 2 == 1) = true := by simp; omega
          go_wp2_with fail
          go_ret
          refine ⟨⟨m + 1, ret_int ?_, m, unhide HF, ?_⟩, hbel10⟩
          · first | (simp [Flt.signBit]; done) | (simp [Flt.signBit]; omega)
          · rw [unhide PK True (by simp; exact .inr ⟨(unhide HC2).1 (unhide HD), hodd⟩)]; simp
        · have ho : ((m : Int) % 2 == 1) = false := by simp; omega
          go_wp2_with fail
          go_ret
          refine ⟨⟨m, ret_int ?_, m, unhide HF, ?_⟩, hbel10⟩
          · simp [Flt.signBit]
          · rw [unhide PK False ⟨fun h => h.elim, fun h => ?_⟩]; simp
            rcases h with h | ⟨_, h⟩
            · have := (unhide HC2).1 (unhide HD); omega
            · exact hodd h
      · have hd0 : (d == 0) = false := by simp; omega
        have hd1 : ¬ d < 0 := by omega
        go_wp2_with fail
        go_ret
        refine ⟨⟨m, ret_int ?_, m, unhide HF, ?_⟩, hbel10⟩
        · simp [Flt.signBit]
        · rw [unhide PK False ⟨fun h => h.elim, fun h => ?_⟩]; simp
          rcases h with h | ⟨h, _⟩
          · have := (unhide HC1).2 h; omega
          · have := (unhide HC2).2 h; omega

/-- Rounded: what the document words. -/
theorem rounded_any (way : Int) (neg : Bool) (p q : Value) (P Q K : Nat) (hK : K ≤ 400) (hQ : 0 < Q) (w : World) (hp : Num w p P K) (hq : Num w q Q K) :
    Calls Try.prog 37 #[.int .i64 way, .bool neg, p, q] w fun e w' => (∃ r : Nat, e = .returned (.int .u32 (Flt.signBit neg + (r : Int))) ∧ Flt.RN way neg P Q r) ∧ Below w.heap.size w w' := by
  by_cases h1 : way = 1
  · subst h1
    cases neg
    · exact rounded_1_false p q P Q K hK hQ w hp hq
    · exact rounded_1_true p q P Q K hK hQ w hp hq
  · by_cases h2 : way = 2
    · subst h2
      cases neg
      · exact rounded_2_false p q P Q K hK hQ w hp hq
      · exact rounded_2_true p q P Q K hK hQ w hp hq
    · have w1 : (way == 1) = false := by simp [h1]
      have w2 : (way == 2) = false := by simp [h2]
      cases neg
      · exact rounded_o_false way w1 w2 p q P Q K hK hQ w hp hq
      · exact rounded_o_true way w1 w2 p q P Q K hK hQ w hp hq
end Go.Proofs.Ytkbniebahledmaa
