import Derived.Test.YtbcmfgohbppndaaKH

/-
  Layer 6: the document's lists of fours.
-/
namespace Go.Proofs.Ytbcmfgohbppndaa
open Go.RowKit
set_option linter.unusedVariables false

theorem Try.infoU32p : (Try.prog.info? 66).map (fun i => (i.zero, i.size, i.bytes)) = some (some (.int .u32 0), 1, 4) := by kernel_rfl
theorem fix1_5 {a : FA} (h : a.wr = 5) : fix1 a.f = some [a.x % 4294967296] := by unfold fix1 FA.f; simp [h]
theorem fix1_2 {a : FA} (h : a.wr = 2) (k : a.d.length % 4 = 0) : fix1 a.f = some (fours a.d) := by unfold fix1 FA.f; simp [h, k]
theorem fix1_no {a : FA} (h : ¬ a.wr = 5) (k : ¬ (a.wr = 2 ∧ a.d.length % 4 = 0)) : fix1 a.f = none := by
  unfold fix1 FA.f
  simp only
  rw [if_neg h, if_neg k]
theorem fours_len (d : List Int) : (fours d).length = d.length / 4 := by simp [fours]
theorem fours_take (d : List Int) (m : Nat) (h : 4 * m + 4 ≤ d.length) : (fours d).take (m + 1) = (fours d).take m ++ [leV ((d.drop (4 * m)).take 4)] := by
  rw [List.take_add_one]
  congr 1
  unfold fours
  rw [List.getElem?_map, List.getElem?_range (by omega)]
  rfl
theorem Ints.cut {k : IntKind} {w : World} {p : Option Addr} {b o c : Nat} {xs : List Int} (h : Ints k w p c xs) (e : p = some ⟨b, o, none⟩) (i n : Nat) (hin : i + n ≤ xs.length) : Ints k w (some ⟨b, o + i, none⟩) (c - i) ((xs.drop i).take n) := by
  subst e
  have hl : ((xs.drop i).take n).length = n := by simp; omega
  have hc := h.1
  refine ⟨by rw [hl]; omega, by have := h.2.1; omega, fun x hx => h.2.2.1 x (List.mem_of_mem_drop (List.mem_of_mem_take hx)), fun hp => ?_, fun h => by cases h⟩
  rw [hl] at hp
  obtain ⟨b', o', e', hb, hcell⟩ := h.lies (by omega)
  simp only [Option.some.injEq, Addr.mk.injEq] at e'
  obtain ⟨rfl, rfl, _⟩ := e'
  refine ⟨b, o + i, rfl, hb, fun j hj => ?_⟩
  rw [hl] at hj
  have := hcell (i + j) (by omega)
  rw [Nat.add_assoc, this]
  congr 2
  rw [List.getD_eq_getElem?_getD, List.getD_eq_getElem?_getD, List.getElem?_take_of_lt hj, List.getElem?_drop]
set_option maxRecDepth 100000 in
set_option maxHeartbeats 4000000 in
theorem rfixed6_any (p : Option Addr) (c : Nat) (l : List FA) (num : Int) (w : World) (h : Fls w p c l) (hs : l.length * 48 ≤ 140737488355328) (hd : (sumD l + l.length) * 8 ≤ 140737488355328) :
    Calls Try.prog 32 #[.slice p l.length c, .int .i64 num] w fun e w' => (∃ q d, e = .returned (.tuple #[.slice q (listV fix1 (l.map FA.f) num).1.length d, .int .i64 (listV fix1 (l.map FA.f) num).2]) ∧ Ls (Value.int .u32) w' q d (listV fix1 (l.map FA.f) num).1) ∧ Below w.heap.size w w' := by
  obtain ⟨i1, hi1, y1, z1, b1⟩ := info_parts Try.infoU32p
  have AL := hide (fun v (hv : Below w.heap.size w v) => rall_any p c l num v (h.below hv) hs)
  have nl := h.1.len
  have hal : (allA l num).length ≤ l.length := List.length_filter_le _ _
  have hsd := sumD_all l num
  have AI := hide (allA_in (num := num) h.2)
  have HV : Hid (listV fix1 (l.map FA.f) num = match allOr fix1 ((allA l num).map FA.f) with
      | none => ([], 6)
      | some x => (x, 0)) := hide (by unfold listV; rw [← allA_f]; cases allOr fix1 ((allA l num).map FA.f) <;> rfl)
  generalize hR : listV fix1 (l.map FA.f) num = R at HV ⊢
  clear hR h
  obtain ⟨R1, R2⟩ := R
  simp only at HV ⊢
  generalize hL : allA l num = A at AL HV hal hsd AI
  clear hL
  go_enter Try.func32, Try.ntmps32
  go_wp2_with fail
  refine (unhide AL _ (Below.refl _ _)).mono ?_
  rintro e w1 ⟨v1, rfl, hO⟩
  obtain ⟨q1, d1, rfl, hc, _⟩ := hO.form
  have C1 := hide hc
  have B1 := hide hO.2
  clear hc hO AL
  go_wp2_with fail
  go_loopw [7, 8] (fun v iv wr => ∃ n : Nat, ∃ xs : List Int, iv = .int .i64 n ∧ n ≤ A.length ∧ xs.length ≤ sumD (A.take n) + n ∧ Hid (allOr fix1 ((A.take n).map FA.f) = some xs) ∧ Hid (OwnG 66 (Value.int .u32) w1 wr v xs)) (fun _ iv _ => A.length - (intOf iv).toNat)
  case atStart => exact ⟨0, [], rfl, by omega, by simp, hide rfl, hide (OwnG.nil _ _ _ (Below.refl _ _))⟩
  case round =>
    obtain ⟨n, xs, rfl, hn, hxl, HX, O⟩ := hrel
    by_cases hlt : n < A.length
    · have hi : (n : Int) < (A.length : Int) := by omega
      obtain ⟨b, o, hq, hb, k0, k1, k2, k3⟩ := ((unhide C1).below (unhide O).2).at hlt
      have HA := hide (allOr_one fix1 A n hlt xs (unhide HX))
      have HI := hide (unhide AI _ (getD_memF hlt))
      have hsz : sumD (A.take (n + 1)) = sumD (A.take n) + (A.getD n noFA).d.length := by
        rw [take_addF A n hlt, sumD_append]; simp [sumD]
      have hsz2 := sumD_take A (n + 1)
      have HAt := hide (unhide C1)
      have HAc := hide (fun v (hv : Below w1.heap.size w1 v) => ((unhide C1).below hv).at hlt)
      generalize A.getD n noFA = a at k0 k1 k2 k3 HA HI hsz HAc
      by_cases h0 : a.wr = 5
      · have t0 : (a.wr == 5) = true := by simp [h0]
        have HA2 : Hid (allOr fix1 ((A.take (n + 1)).map FA.f) = some (xs ++ [a.x % 4294967296])) := hide (by rw [unhide HA, fix1_5 h0]; rfl)
        subst hq
        obtain ⟨x0, x1⟩ := u64_range (unhide HI).2.2.1
        have hwr : IntKind.u32.wrap a.x = a.x % 4294967296 := by rw [IntKind.wrap_u32]
        clear HA HX h0 HAc
        go_wp2_with (at_builtin; (refine wpList_append_ls rfl _ _ 62 rfl w1 66 i1 (.int .u32 0) 4 Try.underlying62 hi1 y1 z1 b1 rfl (int_one .u32) _ xs rfl ((unhide O).below (al1p _ _)) (some ⟨_, 0, none⟩) 1 [a.x % 4294967296] rfl (ls_one6 _ _ _) (by unfold maxLen; simp <;> omega) (by simp <;> omega) ?_; intro v2 w2 O2; have HO2 := hide O2; clear O2))
        go_roundw
        case rel => exact ⟨n + 1, xs ++ [a.x % 4294967296], by go_num, by omega, by simp; omega, HA2, HO2⟩
        case measure => simp [intOf]; omega
      · have t0 : (a.wr == 5) = false := by simp [h0]
        by_cases h2 : a.wr = 2
        · have t2 : (a.wr != 2) = false := bneFp h2
          have hdl := (unhide HI).2.2.2.len
          by_cases h4 : a.d.length % 4 = 0
          · have t4 : ((a.d.length : Int) % 4 != 0) = false := bneFp (by omega)
            have HA2 : Hid (allOr fix1 ((A.take (n + 1)).map FA.f) = some (xs ++ fours a.d)) := hide (by rw [unhide HA, fix1_2 h2 h4]; rfl)
            have LV := hide (fun m (hm : m + 4 ≤ a.d.length) b o (e : a.q = some ⟨b, o, none⟩) v (hv : Below w1.heap.size w1 v) => rlittle_any (some ⟨b, o + m, none⟩) (a.c - m) ((a.d.drop m).take 4) v (((((unhide HI).below (unhide B1)).below hv).2.2.2).cut e m 4 hm) (by simp; omega))
            subst hq
            clear HA HX h0 h2
            go_wp2_with fail
            clear k0 k1 k2 k3
            go_loopw [7, 9] (fun v mv wq => ∃ k m : Nat, mv = .int .i64 (k : Int) ∧ k ≤ a.d.length ∧ Hid (k = 4 * m) ∧ Hid (OwnG 66 (Value.int .u32) w1 wq v (xs ++ (fours a.d).take m))) (fun _ mv _ => a.d.length - (intOf mv).toNat)
            case atStart => exact ⟨0, 0, rfl, by omega, hide rfl, hide (by simpa using unhide O)⟩
            case round =>
              obtain ⟨k, m, rfl, hm, HK, OQ⟩ := hrel
              obtain ⟨b2, o2, e2, hb2, j0, j1, j2, j3⟩ := unhide HAc _ (unhide OQ).2
              simp only [Option.some.injEq, Addr.mk.injEq] at e2
              obtain ⟨rfl, rfl, _⟩ := e2
              by_cases hml : k < a.d.length
              · have tm : (k : Int) < (a.d.length : Int) := by omega
                obtain ⟨bq, oq, eq, hbq, _⟩ := (unhide HI).2.2.2.lies (by omega)
                have LV2 := hide (unhide LV k (by have := unhide HK; omega) bq oq eq _ (unhide OQ).2)
                have hlen4 : ((a.d.drop k).take 4).length = 4 := by have := unhide HK; simp; omega
                rw [hlen4] at LV2
                have HS : Hid ((fours a.d).take (m + 1) = (fours a.d).take m ++ [leV ((a.d.drop k).take 4)]) := hide (by rw [unhide HK]; exact fours_take a.d m (by have := unhide HK; omega))
                obtain ⟨l0, l1⟩ := leV_range ((a.d.drop k).take 4) (isB_take (isB_drop (unhide HI).ok.2.2 _) 4)
                rw [hlen4, show (256 : Int) ^ 4 = 4294967296 by decide] at l1
                have hfl : ((fours a.d).take m).length ≤ a.d.length := by rw [List.length_take, fours_len]; omega
                generalize leV ((a.d.drop k).take 4) = y at LV2 HS l0 l1
                have hwr : IntKind.u32.wrap y = y := by rw [IntKind.wrap_u32]; omega
                have hcap := (unhide HI).2.2.2.1
                have hk4 : k + 4 ≤ a.d.length := by have := unhide HK; omega
                rw [eq] at j3
                clear hlen4 LV eq
                go_wp2_with fail
                refine (unhide LV2).mono ?_
                rintro e w5 ⟨rfl, hv⟩
                replace hv := hv.symm
                subst hv
                go_wp2_with (at_builtin; (refine wpList_append_ls rfl _ _ 62 rfl w1 66 i1 (.int .u32 0) 4 Try.underlying62 hi1 y1 z1 b1 rfl (int_one .u32) _ (xs ++ (fours a.d).take m) rfl ((unhide OQ).below (al1p _ _)) (some ⟨_, 0, none⟩) 1 [y] rfl (ls_one6 _ _ _) (by unfold maxLen; rw [List.length_append]; simp only [List.length_cons, List.length_nil]; omega) (by rw [List.length_append]; simp only [List.length_cons, List.length_nil]; omega) ?_; intro v2 w2 O2; have HO2 := hide (own_eq6 O2 (by rw [List.append_assoc, ← unhide HS])); clear O2))
                go_roundw
                case rel => exact ⟨k + 4, m + 1, by go_num, by omega, hide (by have := unhide HK; omega), HO2⟩
                case measure => simp [intOf]; omega
              · have tm : ¬ (k : Int) < (a.d.length : Int) := by omega
                have HZ : Hid ((fours a.d).take m = fours a.d) := hide (List.take_of_length_le (by rw [fours_len]; have := unhide HK; omega))
                have OQ2 := hide (own_eq6 (unhide OQ) (by rw [unhide HZ] : _ = xs ++ fours a.d))
                have hfl : (fours a.d).length ≤ a.d.length := by rw [fours_len]; omega
                clear LV OQ
                go_wp2_with fail
                go_roundw
                case rel => exact ⟨n + 1, xs ++ fours a.d, by go_num, by omega, by simp; omega, HA2, OQ2⟩
                case measure => simp [intOf]; omega
          · have t4 : ((a.d.length : Int) % 4 != 0) = true := bneTp (by omega)
            have HE : Hid (R1 = [] ∧ R2 = 6) := hide (by
              have hz : allOr fix1 (A.map FA.f) = none := allOr_none (n := n + 1) (by rw [unhide HA, fix1_no h0 (fun h => h4 h.2)]; rfl)
              have := unhide HV
              rw [hz] at this
              simpa using this)
            have BB := hide (bl_tr (unhide B1) (unhide O).2)
            subst hq
            clear HA HX h0 h2 HAc
            go_wp2_with fail
            go_ret2
            obtain ⟨g1, g2⟩ := unhide HE
            subst g1 g2
            exact ⟨⟨none, 0, rfl, Ls.nil _⟩, unhide BB⟩
        · have t2 : (a.wr != 2) = true := bneTp h2
          have HE : Hid (R1 = [] ∧ R2 = 6) := hide (by
            have hz : allOr fix1 (A.map FA.f) = none := allOr_none (n := n + 1) (by rw [unhide HA, fix1_no h0 (fun h => h2 h.1)]; rfl)
            have := unhide HV
            rw [hz] at this
            simpa using this)
          have BB := hide (bl_tr (unhide B1) (unhide O).2)
          subst hq
          clear HA HX h0 h2 HAc
          go_wp2_with fail
          go_ret2
          obtain ⟨g1, g2⟩ := unhide HE
          subst g1 g2
          exact ⟨⟨none, 0, rfl, Ls.nil _⟩, unhide BB⟩
    · have hi : ¬ (n : Int) < (A.length : Int) := by omega
      have HE : Hid (R1 = xs ∧ R2 = 0) := hide (by
        have h1 := unhide HX
        rw [List.take_of_length_le (by omega)] at h1
        have := unhide HV
        rw [h1] at this
        simpa using this)
      obtain ⟨q, d, hv, hL, _⟩ := (unhide O).form
      have HL := hide hL
      have BB := hide (bl_tr (unhide B1) (unhide O).2)
      subst hv
      clear HX hL O
      go_wp2_with fail
      go_ret2
      obtain ⟨g1, g2⟩ := unhide HE
      subst g1 g2
      exact ⟨⟨q, d, rfl, unhide HL⟩, unhide BB⟩
end Go.Proofs.Ytbcmfgohbppndaa
