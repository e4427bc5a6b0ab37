/- For all dims and all places: going from a place to its indices and back leads to the same place, and the place is the sum of indices times strides; no condition. -/
import Derived.Test.YtgobpoaalnpagaaRows
import Derived.WalkKit
import Derived.ProofKit
import Derived.OpenShut
import Derived.Below
import Derived.Carry
import Derived.Test.YtgobpoaalnpagaaHK
namespace Go.Proofs.Ytgobpoaalnpagaa.shapeBack
open Go.ChangeShapes Go.WideShapes Go.ChangeAt Go.RowKit
set_option linter.unusedVariables false

theorem own : ownKnob Try.prog.godebug = none := by kernel_rfl
theorem laidOut : laidOutB Try.prog = true := by kernel_rfl

set_option maxRecDepth 100000 in
set_option maxHeartbeats 8000000 in
/-- Dims that may not be. -/
theorem walk_err (p0 : Option Addr) (c0 : Nat) (x0 : List Int) (a1 : Int) (W : World) (s0 : Ints .i64 W p0 c0 x0) (he : (sizeV x0).2 ≠ 0) :
    Calls Try.prog 5 #[.slice p0 x0.length c0, .int .i64 a1] W fun e W' => e = .returned (.bool true) ∧ Below W.heap.size W W' := by
  have S0 := hide s0
  have z0 := size_err he
  obtain ⟨E, hE⟩ : ∃ E, (sizeV x0).2 = E := ⟨_, rfl⟩
  rw [hE] at he
  have hne : (E != 0) = true := by simp [he]
  have Z := hide (fun w (h : Ints .i64 w p0 c0 x0) => csize_any p0 c0 x0 w h)
  rw [z0, hE] at Z
  clear s0 he hE z0
  go_enter Try.func5, Try.ntmps5
  go_wp2_with fail
  refine (awake4_any _).mono ?_
  rintro e w1 ⟨rfl, hb⟩
  have B := hide hb
  clear hb
  go_wp2_with fail
  refine (unhide Z _ ((unhide S0).below (unhide B))).mono ?_
  rintro e w2 ⟨rfl, rfl⟩
  clear Z
  go_wp2_with fail
  go_ret
  exact ⟨rfl, unhide B⟩
set_option maxRecDepth 100000 in
set_option maxHeartbeats 8000000 in
/-- A shape without elements. -/
theorem walk_none (p0 : Option Addr) (c0 : Nat) (x0 : List Int) (a1 : Int) (W : World) (s0 : Ints .i64 W p0 c0 x0) (he : (sizeV x0).2 = 0) (hz : (sizeV x0).1 = 0) :
    Calls Try.prog 5 #[.slice p0 x0.length c0, .int .i64 a1] W fun e W' => e = .returned (.bool true) ∧ Below W.heap.size W W' := by
  have S0 := hide s0
  have Z := hide (fun w (h : Ints .i64 w p0 c0 x0) => csize_any p0 c0 x0 w h)
  have RI : ∀ xs e, IndexR x0 a1 xs e → e = 2 ∧ xs = [] := by
    rintro xs e (⟨a, b, c⟩ | ⟨a, b, c, d⟩ | ⟨a, b, c, d⟩)
    · exact absurd he a
    · exact ⟨d, c⟩
    · omega
  have HRI := hide RI
  rw [hz, he] at Z
  clear s0 he hz RI
  go_enter Try.func5, Try.ntmps5
  go_wp2_with fail
  refine (awake4_any _).mono ?_
  rintro e w1 ⟨rfl, hb⟩
  have B := hide hb
  clear hb
  go_wp2_with fail
  refine (unhide Z _ ((unhide S0).below (unhide B))).mono ?_
  rintro e w2 ⟨rfl, rfl⟩
  clear Z
  go_wp2_with fail
  refine (cindex_any p0 c0 x0 a1 _ ((unhide S0).below (unhide B))).mono ?_
  rintro e w3 ⟨⟨q, c, xs, er, rfl, hI, hR⟩, hb⟩
  obtain ⟨rfl, rfl⟩ := unhide HRI xs er hR
  replace B := hide (bl_tr (unhide B) hb)
  clear hI hR hb HRI
  go_wp2_with fail
  go_ret
  exact ⟨rfl, unhide B⟩
theorem tests_in {a N : Int} (h1 : 0 ≤ a) (h2 : a < N) : decide (a < 0) = false ∧ decide (N ≤ a) = false := ⟨by simp; omega, by simp; omega⟩
set_option maxRecDepth 100000 in
set_option maxHeartbeats 16000000 in
/-- A shape with elements. -/
theorem walk_some (p0 : Option Addr) (c0 : Nat) (x0 : List Int) (a1 N K : Int) (W : World) (s0 : Ints .i64 W p0 c0 x0) (w1 : -9223372036854775808 ≤ a1 ∧ a1 < 9223372036854775808) (he : (sizeV x0).2 = 0) (hN : (sizeV x0).1 = N) (h0 : 0 < N) (hN4 : N ≤ 4096)
    (hK : (a1 < 0 ∧ K = a1 % 65536 % N) ∨ (0 ≤ a1 ∧ N ≤ a1 ∧ K = a1 % 65536 % N) ∨ (0 ≤ a1 ∧ a1 < N ∧ K = a1)) (k0 : 0 ≤ K) (k1 : K < N) :
    Calls Try.prog 5 #[.slice p0 x0.length c0, .int .i64 a1] W fun e W' => e = .returned (.bool true) ∧ Below W.heap.size W W' := by
  have S0 := hide s0
  have hand : bits .and .i64 a1 65535 = a1 % 65536 := and16 a1 w1.1 w1.2
  have m0 : 0 ≤ a1 % 65536 := by omega
  have m1 : a1 % 65536 < 65536 := by omega
  obtain ⟨M, hM⟩ : ∃ M, a1 % 65536 = M := ⟨_, rfl⟩
  rw [hM] at hand m0 m1 hK
  have hmod : ∀ V, V = M % N → M.tmod N = V := fun V h => by rw [Int.tmod_eq_emod_of_nonneg m0, h]
  have hnz : (N == 0) = false := by simp; omega
  have RI : ∀ xs e, IndexR x0 K xs e → e = 0 ∧ xs.length = x0.length ∧ inR x0 xs ∧ offN x0 xs x0.length = K := by
    rintro xs e (⟨a, b, c⟩ | ⟨a, b, c, d⟩ | ⟨a, b, c, d, f, g, i⟩)
    · exact absurd he a
    · omega
    · exact ⟨i, d, f, g⟩
  have RS : ∀ xs e, StridesR x0 xs e → e = 0 ∧ xs = strideL x0 := by
    rintro xs e (⟨a, b, c⟩ | ⟨a, b, c⟩)
    · exact absurd he a
    · exact ⟨c, b⟩
  have RO : ∀ xs r e, xs.length = x0.length → inR x0 xs → OffsetR x0 xs r e → e = 0 ∧ r = offN x0 xs x0.length := by
    rintro xs r e g1 g2 (⟨a, b, c⟩ | ⟨a, b, c, d⟩ | ⟨a, b, c, d, f⟩)
    · exact absurd he a
    · rcases b with b | b
      · exact absurd g1 b
      · exact absurd g2 b
    · exact ⟨f, d⟩
  have HRI := hide RI
  have HRS := hide RS
  have HRO := hide RO
  have HMOD := hide hmod
  have Z := hide (fun w (h : Ints .i64 w p0 c0 x0) => csize_any p0 c0 x0 w h)
  rw [hN, he] at Z
  obtain ⟨h8, _⟩ := (size_ok he).2
  clear s0 he hN RI RS RO hM hmod w1
  have HK : Hid ((a1 < 0 ∧ K = M % N) ∨ (0 ≤ a1 ∧ N ≤ a1 ∧ K = M % N) ∨ (0 ≤ a1 ∧ a1 < N ∧ K = a1)) := hide hK
  clear hK
  rcases unhide HK with ⟨g1, g2⟩ | ⟨g1, g2, g3⟩ | ⟨g1, g2, g3⟩
  · have d1 : decide (a1 < 0) = true := by simp [g1]
    have ht : M.tmod N = K := unhide HMOD K g2
    clear g2 HK HMOD
    go_enter Try.func5, Try.ntmps5
    go_wp2_with fail
    refine (awake4_any _).mono ?_
    rintro e w1 ⟨rfl, hb⟩
    have B := hide hb
    clear hb
    go_wp2_with fail
    refine (unhide Z _ ((unhide S0).below (unhide B))).mono ?_
    rintro e w2 ⟨rfl, rfl⟩
    clear Z
    go_wp2_with fail
    clear ht hand d1
    refine (cindex_any p0 c0 x0 _ _ ((unhide S0).below (unhide B))).mono ?_
    rintro e w3 ⟨⟨q, c, xs, er, rfl, hI, hR⟩, hb⟩
    obtain ⟨rfl, lx, hin, hof⟩ := unhide HRI xs er hR
    have HIN := hide hin
    have HOF := hide hof
    have HLX := hide lx
    have JX := hide hI
    replace B := hide (bl_tr (unhide B) hb)
    rw [lx]
    clear hI hR hb HRI lx hin hof
    go_wp2_with fail
    refine (cstrides_any p0 c0 x0 _ ((unhide S0).below (unhide B))).mono ?_
    rintro e w4 ⟨⟨qs, cs, ss, es, rfl, hI, hR⟩, hb⟩
    obtain ⟨rfl, rfl⟩ := unhide HRS ss es hR
    have JS := hide hI
    replace JX := hide ((unhide JX).below hb)
    replace B := hide (bl_tr (unhide B) hb)
    rw [strideL_length]
    clear hI hR hb HRS
    have CO := coffset_any p0 q c0 c x0 xs w4 ((unhide S0).below (unhide B)) (unhide JX)
    rw [unhide HLX] at CO
    go_wp2_with fail
    refine CO.mono ?_
    rintro e w5 ⟨⟨r, er, rfl, hR⟩, hb⟩
    obtain ⟨rfl, hr⟩ := unhide HRO xs r er (unhide HLX) (unhide HIN) hR
    rw [unhide HOF] at hr
    subst hr
    replace JX := hide ((unhide JX).below hb)
    replace JS := hide ((unhide JS).below hb)
    replace B := hide (bl_tr (unhide B) hb)
    clear hR hb HRO CO
    go_wp2_with fail
    go_loopw [15, 16] (fun sv iv wr => ∃ n : Nat, ∃ A : Int, iv = .int .i64 n ∧ sv = .int .i64 A ∧ n ≤ x0.length ∧ Hid (A = wrap64 (offN x0 xs n * prodL (x0.drop n))) ∧ ∃ m, wr = w5.drewN m) (fun _ iv _ => x0.length - (intOf iv).toNat)
    case atStart => exact ⟨0, 0, rfl, rfl, by omega, hide (by simp [offN, wrap64]), 0, rfl⟩
    case round =>
      obtain ⟨n, A, rfl, rfl, hn, HA, m, rfl⟩ := hrel
      by_cases hlt : n < x0.length
      · have hi : (n : Int) < (x0.length : Int) := by omega
        have hlx : n < xs.length := by rw [unhide HLX]; exact hlt
        have hls : n < (strideL x0).length := by rw [strideL_length]; exact hlt
        obtain ⟨b, o, rfl, hb, hc⟩ := ((unhide S0).below (unhide B)).lies (by omega)
        obtain ⟨b', o', rfl, hb', hc'⟩ := (unhide JX).lies (by omega)
        obtain ⟨b'', o'', rfl, hb'', hc''⟩ := (unhide JS).lies (by omega)
        have e1 := hc n hlt
        have e2 := hc' n hlx
        have e3 := hc'' n hls
        obtain ⟨v0, v1⟩ := unhide HIN n hlt
        rw [strideL_getD x0 n hlt] at e3
        have HSUM := hide (sum_step (xs := xs) n hlt)
        obtain ⟨P, hP⟩ : ∃ P, prodL (x0.drop (n + 1)) = P := ⟨_, rfl⟩
        rw [hP] at e3 HSUM
        have HPP := hide hP
        obtain ⟨Q, hQ⟩ : ∃ Q, wrap64 P = Q := ⟨_, rfl⟩
        rw [hQ] at e3
        have HQ := hide hQ
        clear hc hc' hc'' hlx hls hP hQ
        generalize xs.getD n 0 = x at e2 v0 v1 HSUM
        generalize x0.getD n 0 = d at e1 v1
        have t1 : decide (x < 0) = false := by simp; omega
        have t2 : decide (d ≤ x) = false := by simp; omega
        have HV := hide (And.intro v0 v1)
        clear v0 v1
        go_wp2_with fail
        go_quiet (fail)
        go_wp2_with fail
        go_quiet (fail)
        go_wp2_with fail
        go_roundw
        case rel =>
          refine ⟨n + 1, _, by go_num, rfl, by omega, hide ?_, _, rfl⟩
          rw [unhide HPP, unhide HSUM, unhide HA, ← unhide HQ]
          exact wrap_sum _ _ _
        case measure => simp [intOf]; omega
      · have hi : ¬ (n : Int) < (x0.length : Int) := by omega
        have en : n = x0.length := by omega
        subst en
        have hA : A = r := by
          have h := unhide HA
          rw [List.drop_length, unhide HOF] at h
          simp only [prodL, List.foldr_nil, Int.mul_one] at h
          rw [h]; unfold wrap64; omega
        subst hA
        clear HA
        go_wp2_with fail
        go_ret
        exact ⟨rfl, bw_drew (unhide B) _⟩
  · have d1 : decide (a1 < 0) = false := by simp; omega
    have d2 : decide (N ≤ a1) = true := by simp [g2]
    have ht : M.tmod N = K := unhide HMOD K g3
    clear g3 HK HMOD
    go_enter Try.func5, Try.ntmps5
    go_wp2_with fail
    refine (awake4_any _).mono ?_
    rintro e w1 ⟨rfl, hb⟩
    have B := hide hb
    clear hb
    go_wp2_with fail
    refine (unhide Z _ ((unhide S0).below (unhide B))).mono ?_
    rintro e w2 ⟨rfl, rfl⟩
    clear Z
    go_wp2_with fail
    clear ht hand d1 d2
    refine (cindex_any p0 c0 x0 _ _ ((unhide S0).below (unhide B))).mono ?_
    rintro e w3 ⟨⟨q, c, xs, er, rfl, hI, hR⟩, hb⟩
    obtain ⟨rfl, lx, hin, hof⟩ := unhide HRI xs er hR
    have HIN := hide hin
    have HOF := hide hof
    have HLX := hide lx
    have JX := hide hI
    replace B := hide (bl_tr (unhide B) hb)
    rw [lx]
    clear hI hR hb HRI lx hin hof
    go_wp2_with fail
    refine (cstrides_any p0 c0 x0 _ ((unhide S0).below (unhide B))).mono ?_
    rintro e w4 ⟨⟨qs, cs, ss, es, rfl, hI, hR⟩, hb⟩
    obtain ⟨rfl, rfl⟩ := unhide HRS ss es hR
    have JS := hide hI
    replace JX := hide ((unhide JX).below hb)
    replace B := hide (bl_tr (unhide B) hb)
    rw [strideL_length]
    clear hI hR hb HRS
    have CO := coffset_any p0 q c0 c x0 xs w4 ((unhide S0).below (unhide B)) (unhide JX)
    rw [unhide HLX] at CO
    go_wp2_with fail
    refine CO.mono ?_
    rintro e w5 ⟨⟨r, er, rfl, hR⟩, hb⟩
    obtain ⟨rfl, hr⟩ := unhide HRO xs r er (unhide HLX) (unhide HIN) hR
    rw [unhide HOF] at hr
    subst hr
    replace JX := hide ((unhide JX).below hb)
    replace JS := hide ((unhide JS).below hb)
    replace B := hide (bl_tr (unhide B) hb)
    clear hR hb HRO CO
    go_wp2_with fail
    go_loopw [15, 16] (fun sv iv wr => ∃ n : Nat, ∃ A : Int, iv = .int .i64 n ∧ sv = .int .i64 A ∧ n ≤ x0.length ∧ Hid (A = wrap64 (offN x0 xs n * prodL (x0.drop n))) ∧ ∃ m, wr = w5.drewN m) (fun _ iv _ => x0.length - (intOf iv).toNat)
    case atStart => exact ⟨0, 0, rfl, rfl, by omega, hide (by simp [offN, wrap64]), 0, rfl⟩
    case round =>
      obtain ⟨n, A, rfl, rfl, hn, HA, m, rfl⟩ := hrel
      by_cases hlt : n < x0.length
      · have hi : (n : Int) < (x0.length : Int) := by omega
        have hlx : n < xs.length := by rw [unhide HLX]; exact hlt
        have hls : n < (strideL x0).length := by rw [strideL_length]; exact hlt
        obtain ⟨b, o, rfl, hb, hc⟩ := ((unhide S0).below (unhide B)).lies (by omega)
        obtain ⟨b', o', rfl, hb', hc'⟩ := (unhide JX).lies (by omega)
        obtain ⟨b'', o'', rfl, hb'', hc''⟩ := (unhide JS).lies (by omega)
        have e1 := hc n hlt
        have e2 := hc' n hlx
        have e3 := hc'' n hls
        obtain ⟨v0, v1⟩ := unhide HIN n hlt
        rw [strideL_getD x0 n hlt] at e3
        have HSUM := hide (sum_step (xs := xs) n hlt)
        obtain ⟨P, hP⟩ : ∃ P, prodL (x0.drop (n + 1)) = P := ⟨_, rfl⟩
        rw [hP] at e3 HSUM
        have HPP := hide hP
        obtain ⟨Q, hQ⟩ : ∃ Q, wrap64 P = Q := ⟨_, rfl⟩
        rw [hQ] at e3
        have HQ := hide hQ
        clear hc hc' hc'' hlx hls hP hQ
        generalize xs.getD n 0 = x at e2 v0 v1 HSUM
        generalize x0.getD n 0 = d at e1 v1
        have t1 : decide (x < 0) = false := by simp; omega
        have t2 : decide (d ≤ x) = false := by simp; omega
        have HV := hide (And.intro v0 v1)
        clear v0 v1
        go_wp2_with fail
        go_quiet (fail)
        go_wp2_with fail
        go_quiet (fail)
        go_wp2_with fail
        go_roundw
        case rel =>
          refine ⟨n + 1, _, by go_num, rfl, by omega, hide ?_, _, rfl⟩
          rw [unhide HPP, unhide HSUM, unhide HA, ← unhide HQ]
          exact wrap_sum _ _ _
        case measure => simp [intOf]; omega
      · have hi : ¬ (n : Int) < (x0.length : Int) := by omega
        have en : n = x0.length := by omega
        subst en
        have hA : A = r := by
          have h := unhide HA
          rw [List.drop_length, unhide HOF] at h
          simp only [prodL, List.foldr_nil, Int.mul_one] at h
          rw [h]; unfold wrap64; omega
        subst hA
        clear HA
        go_wp2_with fail
        go_ret
        exact ⟨rfl, bw_drew (unhide B) _⟩
  · have d1 : decide (a1 < 0) = false := by simp; omega
    have d2 : decide (N ≤ a1) = false := by simp; omega
    subst g3
    clear HK HMOD
    go_enter Try.func5, Try.ntmps5
    go_wp2_with fail
    refine (awake4_any _).mono ?_
    rintro e w1 ⟨rfl, hb⟩
    have B := hide hb
    clear hb
    go_wp2_with fail
    refine (unhide Z _ ((unhide S0).below (unhide B))).mono ?_
    rintro e w2 ⟨rfl, rfl⟩
    clear Z
    go_wp2_with fail
    clear hand d1 d2
    refine (cindex_any p0 c0 x0 _ _ ((unhide S0).below (unhide B))).mono ?_
    rintro e w3 ⟨⟨q, c, xs, er, rfl, hI, hR⟩, hb⟩
    obtain ⟨rfl, lx, hin, hof⟩ := unhide HRI xs er hR
    have HIN := hide hin
    have HOF := hide hof
    have HLX := hide lx
    have JX := hide hI
    replace B := hide (bl_tr (unhide B) hb)
    rw [lx]
    clear hI hR hb HRI lx hin hof
    go_wp2_with fail
    refine (cstrides_any p0 c0 x0 _ ((unhide S0).below (unhide B))).mono ?_
    rintro e w4 ⟨⟨qs, cs, ss, es, rfl, hI, hR⟩, hb⟩
    obtain ⟨rfl, rfl⟩ := unhide HRS ss es hR
    have JS := hide hI
    replace JX := hide ((unhide JX).below hb)
    replace B := hide (bl_tr (unhide B) hb)
    rw [strideL_length]
    clear hI hR hb HRS
    have CO := coffset_any p0 q c0 c x0 xs w4 ((unhide S0).below (unhide B)) (unhide JX)
    rw [unhide HLX] at CO
    go_wp2_with fail
    refine CO.mono ?_
    rintro e w5 ⟨⟨r, er, rfl, hR⟩, hb⟩
    obtain ⟨rfl, hr⟩ := unhide HRO xs r er (unhide HLX) (unhide HIN) hR
    rw [unhide HOF] at hr
    subst hr
    replace JX := hide ((unhide JX).below hb)
    replace JS := hide ((unhide JS).below hb)
    replace B := hide (bl_tr (unhide B) hb)
    clear hR hb HRO CO
    go_wp2_with fail
    go_loopw [15, 16] (fun sv iv wr => ∃ n : Nat, ∃ A : Int, iv = .int .i64 n ∧ sv = .int .i64 A ∧ n ≤ x0.length ∧ Hid (A = wrap64 (offN x0 xs n * prodL (x0.drop n))) ∧ ∃ m, wr = w5.drewN m) (fun _ iv _ => x0.length - (intOf iv).toNat)
    case atStart => exact ⟨0, 0, rfl, rfl, by omega, hide (by simp [offN, wrap64]), 0, rfl⟩
    case round =>
      obtain ⟨n, A, rfl, rfl, hn, HA, m, rfl⟩ := hrel
      by_cases hlt : n < x0.length
      · have hi : (n : Int) < (x0.length : Int) := by omega
        have hlx : n < xs.length := by rw [unhide HLX]; exact hlt
        have hls : n < (strideL x0).length := by rw [strideL_length]; exact hlt
        obtain ⟨b, o, rfl, hb, hc⟩ := ((unhide S0).below (unhide B)).lies (by omega)
        obtain ⟨b', o', rfl, hb', hc'⟩ := (unhide JX).lies (by omega)
        obtain ⟨b'', o'', rfl, hb'', hc''⟩ := (unhide JS).lies (by omega)
        have e1 := hc n hlt
        have e2 := hc' n hlx
        have e3 := hc'' n hls
        obtain ⟨v0, v1⟩ := unhide HIN n hlt
        rw [strideL_getD x0 n hlt] at e3
        have HSUM := hide (sum_step (xs := xs) n hlt)
        obtain ⟨P, hP⟩ : ∃ P, prodL (x0.drop (n + 1)) = P := ⟨_, rfl⟩
        rw [hP] at e3 HSUM
        have HPP := hide hP
        obtain ⟨Q, hQ⟩ : ∃ Q, wrap64 P = Q := ⟨_, rfl⟩
        rw [hQ] at e3
        have HQ := hide hQ
        clear hc hc' hc'' hlx hls hP hQ
        generalize xs.getD n 0 = x at e2 v0 v1 HSUM
        generalize x0.getD n 0 = d at e1 v1
        have t1 : decide (x < 0) = false := by simp; omega
        have t2 : decide (d ≤ x) = false := by simp; omega
        have HV := hide (And.intro v0 v1)
        clear v0 v1
        go_wp2_with fail
        go_quiet (fail)
        go_wp2_with fail
        go_quiet (fail)
        go_wp2_with fail
        go_roundw
        case rel =>
          refine ⟨n + 1, _, by go_num, rfl, by omega, hide ?_, _, rfl⟩
          rw [unhide HPP, unhide HSUM, unhide HA, ← unhide HQ]
          exact wrap_sum _ _ _
        case measure => simp [intOf]; omega
      · have hi : ¬ (n : Int) < (x0.length : Int) := by omega
        have en : n = x0.length := by omega
        subst en
        have hA : A = r := by
          have h := unhide HA
          rw [List.drop_length, unhide HOF] at h
          simp only [prodL, List.foldr_nil, Int.mul_one] at h
          rw [h]; unfold wrap64; omega
        subst hA
        clear HA
        go_wp2_with fail
        go_ret
        exact ⟨rfl, bw_drew (unhide B) _⟩
/-- The statement's call returns true, whatever came in. -/
theorem walk (p0 : Option Addr) (c0 : Nat) (x0 : List Int) (a1 : Int) (W : World) (s0 : Ints .i64 W p0 c0 x0) (w1 : (Lit.int .i64 a1).wf = true) :
    Calls Try.prog 5 #[.slice p0 x0.length c0, .int .i64 a1] W fun e W' => e = .returned (.bool true) ∧ Below W.heap.size W W' := by
  by_cases he : (sizeV x0).2 = 0
  · obtain ⟨r0, r1, _⟩ := size_range x0
    by_cases hz : (sizeV x0).1 = 0
    · exact walk_none p0 c0 x0 a1 W s0 he hz
    · have hp : 0 < (sizeV x0).1 := by omega
      have m0 := Int.emod_nonneg (a1 % 65536) (show (sizeV x0).1 ≠ 0 from hz)
      have m1 := Int.emod_lt_of_pos (a1 % 65536) hp
      rcases Int.lt_or_le a1 0 with g | g
      · exact walk_some p0 c0 x0 a1 _ _ W s0 (wf_i64_iff w1) he rfl hp r1 (.inl ⟨g, rfl⟩) m0 m1
      · rcases Int.lt_or_le a1 (sizeV x0).1 with k | k
        · exact walk_some p0 c0 x0 a1 _ _ W s0 (wf_i64_iff w1) he rfl hp r1 (.inr (.inr ⟨g, k, rfl⟩)) g k
        · exact walk_some p0 c0 x0 a1 _ _ W s0 (wf_i64_iff w1) he rfl hp r1 (.inr (.inl ⟨g, k, rfl⟩)) m0 m1
  · exact walk_err p0 c0 x0 a1 W s0 he

set_option maxRecDepth 100000 in
theorem contract (H : Type) (enc : TypeId × Value → H) (W : World) (base : Nat) (args : Array Value) (ds gs : List (DataW H)) (before : List MemPlace)
    (hval0 : ∀ (j : Nat) t v, Try.f5.params[j]? = some t → args[j]? = some v → Value.okWide Try.prog W .any base t v)
    (hW : DataW.Whole enc Try.prog Try.f5.params.toList Rows.shapeBackSpec.vars false W args.toList ds gs before) :
    Calls Try.prog 5 args W fun e W' => ∃ v, e = .returned v ∧ Rows.shapeBackSpec.post enc Try.prog Try.f5 false true false false W args v W' := by
  have hval : ∀ (j : Nat) t v, Try.f5.params[j]? = some t → args[j]? = some v → Value.okWide Try.prog W .any base t v := hval0
  have hW' := hW
  obtain ⟨p, q, hA0, hV, rfl, hfz, hnd⟩ := hW
  have hA : DataW.TrodAll enc Try.prog W 0 (fun _ => true) true Try.f5.params.toList args.toList ds p := hA0
  rw [Try.params5] at hA hval
  obtain ⟨v0, vs0, d0, ds0, pl0, q0, hargs, rfl, rfl, h0, r0⟩ := trodAll_cons hA
  obtain ⟨v1, vs1, d1, ds1, pl1, q1, rfl, rfl, rfl, h1, r1⟩ := trodAll_cons r0
  obtain ⟨rfl, rfl, rfl⟩ := trodAll_nil r1
  obtain rfl : args = #[v0, v1] := by cases args; simp_all
  obtain ⟨rfl, rfl⟩ := trodVars_none hV
  have h0k := h0
  obtain ⟨p0, c0, x0, rfl, s0, hd0⟩ := ints_open Try.underlying22 Try.underlying3 (by kernel_rfl) (hval 0 22 v0 rfl rfl) h0
  have hlt0 : ∀ y ∈ pl0, y.block < W.heap.size := fun y hy => hW'.lt y (by simp [hy])
  obtain ⟨a1, rfl, rfl, rfl, w1⟩ := open_int Try.underlying3 (hval 1 3 v1 rfl rfl) h1
  clear hA0 hval0
  simp only [List.append_nil] at hW'
  refine (walk p0 c0 x0 a1 W s0 w1).mono fun e W' ⟨he, bel⟩ => ?_
  subst he
  exact ⟨_, rfl, _, _, _, [], _, [], hW', trodAll_mk1 (shut_bool Try.underlying4 _), (trodAll_cons_mk (Below.trod laidOut (by kernel_rfl) (of_decide_eq_true (by kernel_rfl)) h0k bel hlt0) (trodAll_cons_mk (shut_int Try.underlying3 w1) trodAll_mk0)), rfl, bel.frame _, fun h => by cases h⟩

set_option maxRecDepth 100000 in
theorem lifted (os : Os) (started : os.Started) (H : Type) (enc : TypeId × Value → H) :
    ReturnsInHanded {} Try.checked os 5 .any (Rows.shapeBackSpec.pre6 enc Try.prog Try.f5 Rows.shapeBackRow.domain false) (Rows.shapeBackSpec.post enc Try.prog Try.f5 false true false false) := by
  refine returnsInHanded_of_change (C := Try.checked) own started (by kernel_rfl) Try.func5
    (ChangeSpec.witness6 (enc := enc) (C := Try.checked) false ⟨#[], #[.slice none 0 0, .int .i64 0], []⟩ 8 (by kernel_rfl) (by kernel_rfl) (by kernel_rfl) (by kernel_rfl)) ?_
  intro W base args ds gs before hval hW hcnd _
  exact contract H enc W base args ds gs before hval hW

theorem proved : Rows.ShapeBackSaid :=
  OpenClaim.holds_of_wide 5 Try.f5 rfl rfl rfl rfl rfl rfl rfl ⟨rfl, rfl, rfl, rfl, rfl⟩ rfl rfl rfl rfl rfl (by kernel_rfl) Try.func5 (by kernel_rfl)
    (of_decide_eq_true (by kernel_rfl)) (by unfold Func.isWrapper; first | (rw [if_pos (by decide +kernel)]; kernel_rfl) | (rw [if_neg (by decide +kernel)]; exact ⟨rfl, rfl⟩))
    (fun os started H enc _ => lifted os started H enc)
#print axioms proved
end Go.Proofs.Ytgobpoaalnpagaa.shapeBack
