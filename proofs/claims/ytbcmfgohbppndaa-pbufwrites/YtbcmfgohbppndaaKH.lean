import Derived.Test.YtbcmfgohbppndaaKG

/-
  Layer 6: the document's lists of varints.
-/
namespace Go.Proofs.Ytbcmfgohbppndaa
open Go.RowKit
set_option linter.unusedVariables false

theorem Try.infoU64 : (Try.prog.info? 23).map (fun i => (i.zero, i.size, i.bytes)) = some (some (.int .u64 0), 1, 8) := by kernel_rfl
theorem allOr_one (g : Fld → Option (List Int)) (l : List FA) (n : Nat) (h : n < l.length) (xs : List Int) (hx : allOr g ((l.take n).map FA.f) = some xs) : allOr g ((l.take (n + 1)).map FA.f) = (g (l.getD n noFA).f).map (xs ++ ·) := by
  rw [take_addF l n h, List.map_append, allOr_append, hx]
  simp only [List.map_cons, List.map_nil, allOr]
  cases g (l.getD n noFA).f <;> simp
theorem allOr_none {g : Fld → Option (List Int)} {l : List FA} {n : Nat} (h : allOr g ((l.take n).map FA.f) = none) : allOr g (l.map FA.f) = none := by
  rw [← List.take_append_drop n l, List.map_append, allOr_append, h]
theorem vars_step {d : List Int} {m : Nat} {ys : List Int} (hm : m < d.length) (h : varsL d = (varsL (d.drop m)).map (ys ++ ·)) : varsL d = match rdG 10 (d.drop m) with
    | none => none
    | some y => (varsL (d.drop (m + y.2))).map ((ys ++ [y.1]) ++ ·) := by
  rw [h, varsL_step (by simp; omega)]
  cases rdG 10 (d.drop m) with
  | none => rfl
  | some y =>
    simp only [List.drop_drop]
    cases varsL (d.drop (m + y.2)) <;> simp
theorem rdV_in {d : List Int} {m : Nat} (hm : m ≤ d.length) : rdV d (m : Int) = match rdG 10 (d.drop m) with
    | none => (0, 0, 6)
    | some y => (y.1, ((m + y.2 : Nat) : Int), 0) := by
  unfold rdV rdN
  rw [if_neg (by omega), Int.toNat_natCast]
  cases rdG 10 (d.drop m) <;> rfl
theorem int1_0 {a : FA} (h : a.wr = 0) : int1 a.f = some [a.x] := by unfold int1 FA.f; simp [h]
theorem int1_2 {a : FA} (h : a.wr = 2) : int1 a.f = varsL a.d := by unfold int1 FA.f; simp [h]
theorem int1_no {a : FA} (h : ¬ a.wr = 0) (k : ¬ a.wr = 2) : int1 a.f = none := by unfold int1 FA.f; simp [h, k]
set_option maxRecDepth 100000 in
set_option maxHeartbeats 4000000 in
theorem rints6_any (p : Option Addr) (c : Nat) (l : List FA) (num : Int) (w : World) (h : Fls w p c l) (hs : l.length * 48 ≤ 140737488355328) (hd : (sumD l + l.length) * 8 ≤ 140737488355328) :
    Calls Try.prog 30 #[.slice p l.length c, .int .i64 num] w fun e w' => (∃ q d, e = .returned (.tuple #[.slice q (listV int1 (l.map FA.f) num).1.length d, .int .i64 (listV int1 (l.map FA.f) num).2]) ∧ Ls (Value.int .u64) w' q d (listV int1 (l.map FA.f) num).1) ∧ Below w.heap.size w w' := by
  obtain ⟨i1, hi1, y1, z1, b1⟩ := info_parts Try.infoU64
  have AL := hide (fun v (hv : Below w.heap.size w v) => rall_any p c l num v (h.below hv) hs)
  have nl := h.1.len
  have hal : (allA l num).length ≤ l.length := List.length_filter_le _ _
  have hsd := sumD_all l num
  have AI := hide (allA_in (num := num) h.2)
  have HV : Hid (listV int1 (l.map FA.f) num = match allOr int1 ((allA l num).map FA.f) with
      | none => ([], 6)
      | some x => (x, 0)) := hide (by unfold listV; rw [← allA_f]; cases allOr int1 ((allA l num).map FA.f) <;> rfl)
  generalize hR : listV int1 (l.map FA.f) num = R at HV ⊢
  clear hR h
  obtain ⟨R1, R2⟩ := R
  simp only at HV ⊢
  generalize hL : allA l num = A at AL HV hal hsd AI
  clear hL
  go_enter Try.func30, Try.ntmps30
  go_wp2_with fail
  refine (unhide AL _ (Below.refl _ _)).mono ?_
  rintro e w1 ⟨v1, rfl, hO⟩
  obtain ⟨q1, d1, rfl, hc, _⟩ := hO.form
  have C1 := hide hc
  have B1 := hide hO.2
  clear hc hO AL
  go_wp2_with fail
  go_loopw [7, 8] (fun v iv wr => ∃ n : Nat, ∃ xs : List Int, iv = .int .i64 n ∧ n ≤ A.length ∧ xs.length ≤ sumD (A.take n) + n ∧ Hid (allOr int1 ((A.take n).map FA.f) = some xs) ∧ Hid (OwnG 23 (Value.int .u64) w1 wr v xs)) (fun _ iv _ => A.length - (intOf iv).toNat)
  case atStart => exact ⟨0, [], rfl, by omega, by simp, hide rfl, hide (OwnG.nil _ _ _ (Below.refl _ _))⟩
  case round =>
    obtain ⟨n, xs, rfl, hn, hxl, HX, O⟩ := hrel
    by_cases hlt : n < A.length
    · have hi : (n : Int) < (A.length : Int) := by omega
      obtain ⟨b, o, hq, hb, k0, k1, k2, k3⟩ := ((unhide C1).below (unhide O).2).at hlt
      have HA := hide (allOr_one int1 A n hlt xs (unhide HX))
      have HI := hide (unhide AI _ (getD_memF hlt))
      have hsz : sumD (A.take (n + 1)) = sumD (A.take n) + (A.getD n noFA).d.length := by
        rw [take_addF A n hlt, sumD_append]; simp [sumD]
      have hsz2 := sumD_take A (n + 1)
      have HAt := hide (unhide C1)
      have HAc := hide (fun v (hv : Below w1.heap.size w1 v) => ((unhide C1).below hv).at hlt)
      generalize A.getD n noFA = a at k0 k1 k2 k3 HA HI hsz HAc
      by_cases h0 : a.wr = 0
      · have t0 : (a.wr == 0) = true := by simp [h0]
        have HA2 : Hid (allOr int1 ((A.take (n + 1)).map FA.f) = some (xs ++ [a.x])) := hide (by rw [unhide HA, int1_0 h0]; rfl)
        subst hq
        clear HA HX h0 HAc
        go_wp2_with (at_builtin; (refine wpList_append_ls rfl _ _ 58 rfl w1 23 i1 (.int .u64 0) 8 Try.underlying58 hi1 y1 z1 b1 rfl (int_one .u64) _ xs rfl ((unhide O).below (al1p _ _)) (some ⟨_, 0, none⟩) 1 [a.x] rfl (ls_one6 _ _ _) (by unfold maxLen; simp <;> omega) (by simp <;> omega) ?_; intro v2 w2 O2; have HO2 := hide O2; clear O2))
        go_roundw
        case rel => exact ⟨n + 1, xs ++ [a.x], by go_num, by omega, by simp; omega, HA2, HO2⟩
        case measure => simp [intOf]; omega
      · have t0 : (a.wr == 0) = false := by simp [h0]
        by_cases h2 : a.wr = 2
        · have t2 : (a.wr != 2) = false := bneFp h2
          have HA2 : Hid (∀ zs, varsL a.d = some zs → allOr int1 ((A.take (n + 1)).map FA.f) = some (xs ++ zs)) := hide (fun zs hz => by rw [unhide HA, int1_2 h2, hz]; rfl)
          have HA3 : Hid (varsL a.d = none → allOr int1 (A.map FA.f) = none) := hide (fun hz => allOr_none (n := n + 1) (by rw [unhide HA, int1_2 h2, hz]; rfl))
          have hdl := (unhide HI).2.2.2.len
          have hdl2 : a.d.length ≤ 4611686018427387904 := by omega
          subst hq
          have RV := hide (fun m v (hv : Below w1.heap.size w1 v) => rrdv_any a.q a.c a.d m v (((unhide HI).below (unhide B1)).below hv).2.2.2 hdl2)
          clear HA HX h0 h2
          go_wp2_with fail
          clear k0 k1 k2 k3
          go_loopw [7, 9] (fun v mv wq => ∃ m : Nat, ∃ ys : List Int, mv = .int .i64 m ∧ m ≤ a.d.length ∧ ys.length ≤ m ∧ Hid (varsL a.d = (varsL (a.d.drop m)).map (ys ++ ·)) ∧ Hid (OwnG 23 (Value.int .u64) w1 wq v (xs ++ ys))) (fun _ mv _ => a.d.length - (intOf mv).toNat)
          case atStart => exact ⟨0, [], rfl, by omega, by simp, hide (by rw [List.drop_zero]; cases varsL a.d <;> rfl), hide (by rw [List.append_nil]; exact unhide O)⟩
          case round =>
            obtain ⟨m, ys, rfl, hm, hyl, HY, OQ⟩ := hrel
            obtain ⟨b2, o2, e2, hb2, j0, j1, j2, j3⟩ := unhide HAc _ (unhide OQ).2
            simp only [Option.some.injEq, Addr.mk.injEq] at e2
            obtain ⟨rfl, rfl, _⟩ := e2
            by_cases hml : m < a.d.length
            · have tm : (m : Int) < (a.d.length : Int) := by omega
              have HS := hide (vars_step hml (unhide HY))
              have RV2 := hide (unhide RV (m : Int) _ (unhide OQ).2)
              rw [rdV_in hm] at RV2
              cases hg : rdG 10 (a.d.drop m) with
              | none =>
                rw [hg] at RV2
                simp only at RV2
                have HE : Hid (R1 = [] ∧ R2 = 6) := hide (by
                  have h1 := unhide HS
                  rw [hg] at h1
                  have := unhide HV
                  rw [unhide HA3 h1] at this
                  simpa using this)
                have BB := hide (bl_tr (unhide B1) (unhide OQ).2)
                clear HS HY hg RV
                go_wp2_with fail
                refine (unhide RV2).mono ?_
                rintro e w5 ⟨rfl, hv⟩
                replace hv := hv.symm
                subst hv
                go_wp2_with fail
                go_ret2
                obtain ⟨g1, g2⟩ := unhide HE
                subst g1 g2
                exact ⟨⟨none, 0, rfl, Ls.nil _⟩, unhide BB⟩
              | some y =>
                obtain ⟨x, k⟩ := y
                rw [hg] at RV2
                simp only at RV2
                obtain ⟨g1, g2, g3⟩ := rdG_count 10 _ x k hg
                simp at g3
                have HY2 : Hid (varsL a.d = (varsL (a.d.drop (m + k))).map ((ys ++ [x]) ++ ·)) := hide (by
                  have h1 := unhide HS
                  rw [hg] at h1
                  exact h1)
                obtain ⟨mk, hmk⟩ : ∃ mk, m + k = mk := ⟨_, rfl⟩
                have gk1 : m < mk := by omega
                have gk2 : mk ≤ a.d.length := by omega
                rw [hmk] at RV2 HY2
                clear HS HY hg RV hmk g1 g2 g3
                go_wp2_with fail
                refine (unhide RV2).mono ?_
                rintro e w5 ⟨rfl, hv⟩
                replace hv := hv.symm
                subst hv
                go_wp2_with (at_builtin; (refine wpList_append_ls rfl _ _ 58 rfl w1 23 i1 (.int .u64 0) 8 Try.underlying58 hi1 y1 z1 b1 rfl (int_one .u64) _ (xs ++ ys) rfl ((unhide OQ).below (al1p _ _)) (some ⟨_, 0, none⟩) 1 [x] rfl (ls_one6 _ _ _) (by unfold maxLen; simp <;> omega) (by simp <;> omega) ?_; intro v2 w2 O2; have HO2 := hide (own_eq6 O2 (List.append_assoc _ _ _)); clear O2))
                go_roundw
                case rel => exact ⟨mk, ys ++ [x], rfl, by omega, by simp; omega, HY2, HO2⟩
                case measure => simp [intOf]; omega
            · have tm : ¬ (m : Int) < (a.d.length : Int) := by omega
              have HZ : Hid (varsL a.d = some ys) := hide (by
                rw [unhide HY, List.drop_of_length_le (by omega), varsL_nil]; simp)
              have HA4 := hide (unhide HA2 ys (unhide HZ))
              clear HY RV HA2 HA3
              go_wp2_with fail
              go_roundw
              case rel => exact ⟨n + 1, xs ++ ys, by go_num, by omega, by simp; omega, HA4, OQ⟩
              case measure => simp [intOf]; omega
        · have t2 : (a.wr != 2) = true := bneTp h2
          have HE : Hid (R1 = [] ∧ R2 = 6) := hide (by
            have hz : allOr int1 (A.map FA.f) = none := allOr_none (n := n + 1) (by rw [unhide HA, int1_no h0 h2]; rfl)
            have := unhide HV
            rw [hz] at this
            simpa using this)
          have BB := hide (bl_tr (unhide B1) (unhide O).2)
          subst hq
          clear HA HX h0 h2 HAc
          go_wp2_with fail
          go_ret2
          obtain ⟨g1, g2⟩ := unhide HE
          subst g1 g2
          exact ⟨⟨none, 0, rfl, Ls.nil _⟩, unhide BB⟩
    · have hi : ¬ (n : Int) < (A.length : Int) := by omega
      have HE : Hid (R1 = xs ∧ R2 = 0) := hide (by
        have h1 := unhide HX
        rw [List.take_of_length_le (by omega)] at h1
        have := unhide HV
        rw [h1] at this
        simpa using this)
      obtain ⟨q, d, hv, hL, _⟩ := (unhide O).form
      have HL := hide hL
      have BB := hide (bl_tr (unhide B1) (unhide O).2)
      subst hv
      clear HX hL O
      go_wp2_with fail
      go_ret2
      obtain ⟨g1, g2⟩ := unhide HE
      subst g1 g2
      exact ⟨⟨q, d, rfl, unhide HL⟩, unhide BB⟩
end Go.Proofs.Ytbcmfgohbppndaa
