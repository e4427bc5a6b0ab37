import Derived.Test.YtbcmfgohbppndaaKN

/-
  Layer 6: are two lists of fields the same?
-/
namespace Go.Proofs.Ytbcmfgohbppndaa
open Go.RowKit
set_option linter.unusedVariables false

theorem map_at {l l' : List FA} {n : Nat} (h : l.map FA.f = l'.map FA.f) (h1 : n < l.length) (h2 : n < l'.length) : (l.getD n noFA).f = (l'.getD n noFA).f := by
  have := congrArg (fun x => x[n]?) h
  simp only [List.getElem?_map] at this
  rw [List.getD_eq_getElem?_getD, List.getD_eq_getElem?_getD, List.getElem?_eq_getElem h1, List.getElem?_eq_getElem h2]
  rw [List.getElem?_eq_getElem h1, List.getElem?_eq_getElem h2] at this
  simpa using this
def mtake (l : List FA) (n : Nat) : List Fld := (l.take n).map FA.f
theorem mtake_step {l : List FA} {n : Nat} (h : n < l.length) : mtake l (n + 1) = mtake l n ++ [(l.getD n noFA).f] := by
  unfold mtake
  rw [take_addF l n h, List.map_append]; rfl
theorem mtake_all {l : List FA} {n : Nat} (h : l.length ≤ n) : mtake l n = l.map FA.f := by unfold mtake; rw [List.take_of_length_le h]

set_option maxRecDepth 100000 in
set_option maxHeartbeats 4000000 in
theorem same6_any (p p' : Option Addr) (c c' : Nat) (l l' : List FA) (w : World) (h : Fls w p c l) (k : Fls w p' c' l') :
    Calls Try.prog 19 #[.slice p l.length c, .slice p' l'.length c'] w fun e w' => e = .returned (.bool (decide (l.map FA.f = l'.map FA.f))) ∧ Below w.heap.size w w' := by
  have A1 := hide h
  have A2 := hide k
  have nx := h.1.len
  have ny := k.1.len
  clear h k
  obtain ⟨D, hD⟩ : ∃ D, decide (l.map FA.f = l'.map FA.f) = D := ⟨_, rfl⟩
  have HD := hide hD
  rw [hD]
  clear hD
  by_cases hl : l.length = l'.length
  · have tl : ((l.length : Int) != (l'.length : Int)) = false := bneFp (by omega)
    have HL := hide hl
    clear hl
    go_enter Try.func19, Try.ntmps19
    go_wp2_with fail
    clear tl
    go_loopw [5] (fun iv wr => ∃ n : Nat, iv = .int .i64 n ∧ n ≤ l.length ∧ Hid (mtake l n = mtake l' n) ∧ Hid (Below w.heap.size w wr)) (fun iv _ => l.length - (intOf iv).toNat)
    case atStart => exact ⟨0, rfl, by omega, hide rfl, hide (Below.refl _ _)⟩
    case round =>
      obtain ⟨n, rfl, hn, HT, HB⟩ := hrel
      by_cases hlt : n < l.length
      · have hlt2 : n < l'.length := by rw [← unhide HL]; exact hlt
        have hi : (n : Int) < (l.length : Int) := by omega
        have hi2 : (n : Int) < (l'.length : Int) := by omega
        obtain ⟨b, o, hq, hb, hz1⟩ := ((unhide A1).1.below (unhide HB)).at hlt
        obtain ⟨b', o', hq', hb', hz2⟩ := ((unhide A2).1.below (unhide HB)).at hlt2
        clear hz1 hz2
        have KA := hide (fun v (hv : Below w.heap.size w v) => And.intro (by
            obtain ⟨b2, o2, e2, _, g⟩ := ((unhide A1).1.below hv).at hlt
            rw [hq] at e2
            simp only [Option.some.injEq, Addr.mk.injEq] at e2
            obtain ⟨rfl, rfl, _⟩ := e2
            exact g : v.cell? ⟨b, o + n * 4, none⟩ = some (.int .i64 (l.getD n noFA).n) ∧ v.cell? ⟨b, o + n * 4 + 1, none⟩ = some (.int .i64 (l.getD n noFA).wr) ∧ v.cell? ⟨b, o + n * 4 + 2, none⟩ = some (.int .u64 (l.getD n noFA).x) ∧ v.cell? ⟨b, o + n * 4 + 3, none⟩ = some (.slice (l.getD n noFA).q (l.getD n noFA).d.length (l.getD n noFA).c)) (by
            obtain ⟨b2, o2, e2, _, g⟩ := ((unhide A2).1.below hv).at hlt2
            rw [hq'] at e2
            simp only [Option.some.injEq, Addr.mk.injEq] at e2
            obtain ⟨rfl, rfl, _⟩ := e2
            exact g : v.cell? ⟨b', o' + n * 4, none⟩ = some (.int .i64 (l'.getD n noFA).n) ∧ v.cell? ⟨b', o' + n * 4 + 1, none⟩ = some (.int .i64 (l'.getD n noFA).wr) ∧ v.cell? ⟨b', o' + n * 4 + 2, none⟩ = some (.int .u64 (l'.getD n noFA).x) ∧ v.cell? ⟨b', o' + n * 4 + 3, none⟩ = some (.slice (l'.getD n noFA).q (l'.getD n noFA).d.length (l'.getD n noFA).c)))
        have SB := hide (fun v (hv : Below w.heap.size w v) => rsameb_any (l.getD n noFA).q (l'.getD n noFA).q (l.getD n noFA).c (l'.getD n noFA).c (l.getD n noFA).d (l'.getD n noFA).d v (((unhide A1).2 _ (getD_memF hlt)).below hv).2.2.2 (((unhide A2).2 _ (getD_memF hlt2)).below hv).2.2.2)
        have TE : Hid ((l.getD n noFA).f = (l'.getD n noFA).f → mtake l (n + 1) = mtake l' (n + 1)) := hide (fun e => by rw [mtake_step hlt, mtake_step hlt2, unhide HT, e])
        have TN : Hid (¬ (l.getD n noFA).f = (l'.getD n noFA).f → ¬ l.map FA.f = l'.map FA.f) := hide (fun e h => e (map_at h hlt hlt2))
        have BD := hide (bl_tr (unhide HB) (bdrewp wr))
        have DB1 := hide (unhide KA _ (unhide BD))
        obtain ⟨⟨k0, k1, k2, k3⟩, j0, j1, j2, j3⟩ := unhide KA _ (unhide HB)
        generalize l.getD n noFA = a at KA SB TE TN DB1 k0 k1 k2 k3
        generalize l'.getD n noFA = a' at KA SB TE TN DB1 j0 j1 j2 j3
        subst hq hq'
        clear HT
        by_cases e1 : a.n = a'.n
        · have t1 : (a.n != a'.n) = false := bneFp e1
          have u1 : (a.n == a'.n) = true := by simp [e1]
          by_cases e2 : a.wr = a'.wr
          · have t2 : (a.wr != a'.wr) = false := bneFp e2
            have u2 : (a.wr == a'.wr) = true := by simp [e2]
            by_cases e3 : a.x = a'.x
            · have t3 : (a.x != a'.x) = false := bneFp e3
              have u3 : (a.x == a'.x) = true := by simp [e3]
              by_cases e4 : a.d = a'.d
              · have HT2 := hide (unhide TE (by unfold FA.f; rw [e1, e2, e3, e4]))
                rw [decide_eq_true e4] at SB
                clear e1 e2 e3 e4 TE TN
                go_wp2_with fail
                go_region_held3 (fun v => (v.cell? ⟨b, o + n * 4, none⟩ = some (.int .i64 a.n) ∧ v.cell? ⟨b, o + n * 4 + 1, none⟩ = some (.int .i64 a.wr) ∧ v.cell? ⟨b, o + n * 4 + 2, none⟩ = some (.int .u64 a.x) ∧ v.cell? ⟨b, o + n * 4 + 3, none⟩ = some (.slice a.q a.d.length a.c)) ∧ v.cell? ⟨b', o' + n * 4, none⟩ = some (.int .i64 a'.n) ∧ v.cell? ⟨b', o' + n * 4 + 1, none⟩ = some (.int .i64 a'.wr) ∧ v.cell? ⟨b', o' + n * 4 + 2, none⟩ = some (.int .u64 a'.x) ∧ v.cell? ⟨b', o' + n * 4 + 3, none⟩ = some (.slice a'.q a'.d.length a'.c)) (first | with_reducible exact unhide DB3 | with_reducible exact unhide DB1) (first | (go_at_call 14; (refine (unhide SB _ (unhide BD)).mono ?_; rintro e w5 ⟨rfl, hb5⟩; have B5 := hide (bl_tr (unhide BD) hb5); have DB3 := hide (unhide KA _ (unhide B5)); clear hb5)))
                go_wp2_with fail
                go_roundw
                case rel => exact ⟨n + 1, by go_num, by omega, HT2, B5⟩
                case measure => simp [intOf]; omega
              · have NE := hide (unhide TN (fun h => e4 (by unfold FA.f at h; simp only [Prod.mk.injEq] at h; exact h.2.2.2)))
                rw [decide_eq_false e4] at SB
                clear e1 e2 e3 e4 TE TN
                go_wp2_with fail
                go_region_held3 (fun v => (v.cell? ⟨b, o + n * 4, none⟩ = some (.int .i64 a.n) ∧ v.cell? ⟨b, o + n * 4 + 1, none⟩ = some (.int .i64 a.wr) ∧ v.cell? ⟨b, o + n * 4 + 2, none⟩ = some (.int .u64 a.x) ∧ v.cell? ⟨b, o + n * 4 + 3, none⟩ = some (.slice a.q a.d.length a.c)) ∧ v.cell? ⟨b', o' + n * 4, none⟩ = some (.int .i64 a'.n) ∧ v.cell? ⟨b', o' + n * 4 + 1, none⟩ = some (.int .i64 a'.wr) ∧ v.cell? ⟨b', o' + n * 4 + 2, none⟩ = some (.int .u64 a'.x) ∧ v.cell? ⟨b', o' + n * 4 + 3, none⟩ = some (.slice a'.q a'.d.length a'.c)) (first | with_reducible exact unhide DB3 | with_reducible exact unhide DB1) (first | (go_at_call 14; (refine (unhide SB _ (unhide BD)).mono ?_; rintro e w5 ⟨rfl, hb5⟩; have B5 := hide (bl_tr (unhide BD) hb5); have DB3 := hide (unhide KA _ (unhide B5)); clear hb5)))
                go_wp2_with fail
                go_ret
                exact ⟨ret_bool (by rw [← unhide HD]; exact (decide_eq_false (unhide NE)).symm), unhide B5⟩
            · have t3 : (a.x != a'.x) = true := bneTp e3
              have NE := hide (unhide TN (fun h => e3 (by unfold FA.f at h; simp only [Prod.mk.injEq] at h; exact h.2.2.1)))
              clear e1 e2 e3 TE TN SB
              clear DB1 KA
              go_wp2_with fail
              go_quiet (fail)
              go_wp2_with fail
              go_ret
              exact ⟨ret_bool (by rw [← unhide HD]; exact (decide_eq_false (unhide NE)).symm), by first | exact unhide BD | exact bw_drew (unhide HB) _⟩
          · have t2 : (a.wr != a'.wr) = true := bneTp e2
            have NE := hide (unhide TN (fun h => e2 (by unfold FA.f at h; simp only [Prod.mk.injEq] at h; exact h.2.1)))
            clear e1 e2 TE TN SB
            clear DB1 KA
            go_wp2_with fail
            go_quiet (fail)
            go_wp2_with fail
            go_ret
            exact ⟨ret_bool (by rw [← unhide HD]; exact (decide_eq_false (unhide NE)).symm), by first | exact unhide BD | exact bw_drew (unhide HB) _⟩
        · have t1 : (a.n != a'.n) = true := bneTp e1
          have NE := hide (unhide TN (fun h => e1 (by unfold FA.f at h; simp only [Prod.mk.injEq] at h; exact h.1)))
          clear e1 TE TN SB
          clear DB1 KA
          go_wp2_with fail
          go_quiet (fail)
          go_wp2_with fail
          go_ret
          exact ⟨ret_bool (by rw [← unhide HD]; exact (decide_eq_false (unhide NE)).symm), by first | exact unhide BD | exact bw_drew (unhide HB) _⟩
      · have hi : ¬ (n : Int) < (l.length : Int) := by omega
        have Q0 : Hid (l.map FA.f = l'.map FA.f) := hide (by
          have h1 := unhide HT
          rw [mtake_all (by omega), mtake_all (by have := unhide HL; omega)] at h1
          exact h1)
        clear HT
        go_wp2_with fail
        go_ret
        exact ⟨ret_bool (by rw [← unhide HD]; exact (decide_eq_true (unhide Q0)).symm), unhide HB⟩
  · have tl : ((l.length : Int) != (l'.length : Int)) = true := bneTp (by omega)
    have NE : Hid (¬ l.map FA.f = l'.map FA.f) := hide (fun h => hl (by have := congrArg List.length h; simpa using this))
    clear hl
    go_enter Try.func19, Try.ntmps19
    go_wp2_with fail
    go_ret
    exact ⟨ret_bool (by rw [← unhide HD]; exact (decide_eq_false (unhide NE)).symm), Below.refl _ _⟩
end Go.Proofs.Ytbcmfgohbppndaa
