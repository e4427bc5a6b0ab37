/-
  Layer 6: the document's examples.
-/
import Derived.Test.YtbcmfgohbppndaaLE
import Derived.Test.YtbcmfgohbppndaaLG
import Derived.Laws.BytesArg
import Derived.Lib.SlBytesConst
namespace Go.Proofs.Ytbcmfgohbppndaa
open Go.RowKit
set_option linter.unusedVariables false

theorem box_ints {u : World} {k : Nat} {cs : Array Value} {t : TypeId} (h : Box u k cs t) (xs : List Int) (hc : cs = (xs.map (Value.int .u8)).toArray) (hx : ∀ x ∈ xs, (Lit.int .u8 x).wf = true) (hn : xs.length ≤ 1000) : Ints .u8 u (some ⟨k, 0, none⟩) xs.length xs := by
  refine ⟨Nat.le_refl _, by omega, hx, fun _ => ⟨k, 0, rfl, h.lt, fun i hi => ?_⟩, fun h => by cases h⟩
  rw [h.cell, hc, Nat.zero_add]
  simp [List.getElem?_eq_getElem hi]
theorem own_cells2 {t : TypeId} {u w : World} {v : Value} {x y : Int} (h : OwnG t (Value.int .u8) u w v [x, y]) : ∃ b o c, v = .slice (some ⟨b, o, none⟩) 2 c ∧ ∀ w', Below w.heap.size w w' → w'.cell? ⟨b, o, none⟩ = some (.int .u8 x) ∧ w'.cell? ⟨b, o + 1, none⟩ = some (.int .u8 y) := by
  obtain ⟨p, c, rfl, hl, _⟩ := h.form
  obtain ⟨b, o, rfl, _⟩ := hl.lies (by simp)
  refine ⟨b, o, c, rfl, fun w' hb => ?_⟩
  obtain ⟨b', o', e, _, hc⟩ := (hl.below hb).lies (by simp)
  simp only [Option.some.injEq, Addr.mk.injEq] at e
  obtain ⟨rfl, rfl, _⟩ := e
  exact ⟨hc 0 (by simp), hc 1 (by simp)⟩
theorem own_cell7 {t : TypeId} {u w : World} {v : Value} {x0 x1 x2 x3 x4 x5 y : Int} (h : OwnG t (Value.int .u8) u w v [x0, x1, x2, x3, x4, x5, y]) : ∃ b o c, v = .slice (some ⟨b, o, none⟩) 7 c ∧ w.cell? ⟨b, o + 6, none⟩ = some (.int .u8 y) := by
  obtain ⟨p, c, rfl, hl, _⟩ := h.form
  obtain ⟨b, o, rfl, _, hc⟩ := hl.lies (by simp)
  exact ⟨b, o, c, rfl, hc 6 (by simp)⟩
/-- What the first example's fields are. -/
theorem own_two {u w : World} {v : Value} {L : List FA} (h : OwnL u w v L) (hf : L.map FA.f = [(1, 0, 150, []), (2, 2, 0, [65, 66])]) : ∃ b o c b2 o2 c2, v = .slice (some ⟨b, o, none⟩) 2 c ∧ ∀ w', Below w.heap.size w w' →
    w'.cell? ⟨b, o, none⟩ = some (.int .i64 1) ∧ w'.cell? ⟨b, o + 2, none⟩ = some (.int .u64 150) ∧ w'.cell? ⟨b, o + 5, none⟩ = some (.int .i64 2) ∧ w'.cell? ⟨b, o + 7, none⟩ = some (.slice (some ⟨b2, o2, none⟩) 2 c2) ∧ w'.cell? ⟨b2, o2, none⟩ = some (.int .u8 65) ∧ w'.cell? ⟨b2, o2 + 1, none⟩ = some (.int .u8 66) := by
  obtain ⟨q, d, rfl, hF⟩ := h.fls
  obtain ⟨a, a2, rfl⟩ : ∃ a a2, L = [a, a2] := by
    have hl : L.length = 2 := by have := congrArg List.length hf; simpa using this
    cases L with
    | nil => simp at hl
    | cons a r =>
      cases r with
      | nil => simp at hl
      | cons a2 r2 =>
        cases r2 with
        | nil => exact ⟨a, a2, rfl⟩
        | cons _ _ => simp at hl
  simp only [List.map_cons, List.map_nil, List.cons.injEq, and_true, FA.f, Prod.mk.injEq] at hf
  obtain ⟨⟨g1, g2, g3, g4⟩, k1, k2, k3, k4⟩ := hf
  obtain ⟨b, o, rfl, _⟩ := hF.1.at (i := 0) (by simp)
  have hI := (hF.2 a2 (by simp)).2.2.2
  rw [k4] at hI
  obtain ⟨b2, o2, hq2, _, _⟩ := hI.lies (by simp)
  refine ⟨b, o, d, b2, o2, a2.c, rfl, fun w' hb => ?_⟩
  obtain ⟨b', o', e', _, m0, m1, m2, m3⟩ := (hF.1.below hb).at (i := 0) (by simp)
  simp only [Option.some.injEq, Addr.mk.injEq] at e'
  obtain ⟨rfl, rfl, _⟩ := e'
  obtain ⟨b', o', e', _, n0, n1, n2, n3⟩ := (hF.1.below hb).at (i := 1) (by simp)
  simp only [Option.some.injEq, Addr.mk.injEq] at e'
  obtain ⟨rfl, rfl, _⟩ := e'
  obtain ⟨b', o', e', _, hc⟩ := (hI.below hb).lies (by simp)
  rw [hq2] at e'
  simp only [Option.some.injEq, Addr.mk.injEq] at e'
  obtain ⟨rfl, rfl, _⟩ := e'
  have c0 := hc 0 (by simp)
  have c1 := hc 1 (by simp)
  have m0' : w'.cell? ⟨b, o, none⟩ = some (.int .i64 a.n) := m0
  have m2' : w'.cell? ⟨b, o + 2, none⟩ = some (.int .u64 a.x) := m2
  have n1' : w'.cell? ⟨b, o + 5, none⟩ = some (.int .i64 a2.wr) := n1
  have n3' : w'.cell? ⟨b, o + 7, none⟩ = some (.slice a2.q a2.d.length a2.c) := n3
  rw [g1] at m0'
  rw [g3] at m2'
  rw [k2] at n1'
  rw [hq2, k4] at n3'
  exact ⟨m0', m2', n1', n3', c0, c1⟩
/-- The fields that are written. -/
theorem two_fls (u : World) (t t2 : TypeId) : Fls ((u.alloc (.cells #[.int .u8 65, .int .u8 66] t (2, 3))).alloc (.cells #[.int .i64 1, .int .i64 0, .int .u64 150, .slice none 0 0, .int .i64 2, .int .i64 2, .int .u64 0, .slice (some ⟨u.heap.size, 0, none⟩) 2 2] t2)) (some ⟨u.heap.size + 1, 0, none⟩) 2 [⟨1, 0, 150, [], none, 0⟩, ⟨2, 2, 0, [65, 66], some ⟨u.heap.size, 0, none⟩, 2⟩] := by
  have hB := Box.new (u.alloc (.cells #[.int .u8 65, .int .u8 66] t (2, 3))) #[.int .i64 1, .int .i64 0, .int .u64 150, .slice none 0 0, .int .i64 2, .int .i64 2, .int .u64 0, .slice (some ⟨u.heap.size, 0, none⟩) 2 2] t2
  simp only [alloc_size6] at hB
  refine ⟨⟨by simp, by omega, fun _ => ⟨u.heap.size + 1, 0, rfl, hB.lt, fun i hi j v hv => ?_⟩, fun h => by cases h⟩, fun a ha => ?_⟩
  · rw [hB.cell]
    have hj : j < 4 := by
      have := (List.getElem?_eq_some_iff.1 hv).1
      rw [fa_len] at this; exact this
    have hi2 : i = 0 ∨ i = 1 := by simp at hi; omega
    have hj2 : j = 0 ∨ j = 1 ∨ j = 2 ∨ j = 3 := by omega
    rcases hi2 with rfl | rfl <;> rcases hj2 with rfl | rfl | rfl | rfl <;> (simp [faCells] at hv ⊢; exact hv)
  · simp only [List.mem_cons, List.not_mem_nil, or_false] at ha
    rcases ha with rfl | rfl
    · exact ⟨rfl, rfl, rfl, nil8 _⟩
    · refine ⟨rfl, rfl, rfl, by simp, by simp only; omega, (show ∀ x ∈ [65, 66], (Lit.int .u8 x).wf = true by decide), fun _ => ⟨u.heap.size, 0, rfl, by simp; omega, fun i hi => ?_⟩, fun h => by cases h⟩
      have hh : ((u.alloc (.cells #[.int .u8 65, .int .u8 66] t (2, 3))).alloc (.cells #[.int .i64 1, .int .i64 0, .int .u64 150, .slice none 0 0, .int .i64 2, .int .i64 2, .int .u64 0, .slice (some ⟨u.heap.size, 0, none⟩) 2 2] t2)).heap[u.heap.size]? = some (.cells #[.int .u8 65, .int .u8 66] t (2, 3)) := by
        show ((u.heap.push _).push _)[u.heap.size]? = _
        simp [Array.getElem?_push]
      have hi2 : i = 0 ∨ i = 1 := by simp at hi; omega
      rcases hi2 with rfl | rfl <;> simp [World.cell?, hh]
set_option maxRecDepth 100000 in
set_option maxHeartbeats 4000000 in
theorem awake6_any (w : World) : Calls Try.prog 9 #[] w fun e w' => e = .returned (.bool true) ∧ Below w.heap.size w w' := by
  have e1 : varV 300 = [172, 2] := by decide
  have e2 : rdV [172, 2] 0 = (300, 2, 0) := by decide
  have e3 : rdV [172, 2] 2 = (0, 0, 6) := by decide
  have e4 : readV [8, 150, 1, 18, 2, 65, 66] = ([(1, 0, 150, []), (2, 2, 0, [65, 66])], 0) := by decide +kernel
  have e5 : readV [18, 3, 65] = ([], 6) := by decide +kernel
  have e6 : writeV [(1, 0, 150, []), (2, 2, 0, [65, 66])] = ([8, 150, 1, 18, 2, 65, 66], 0) := by decide +kernel
  have VI := hide (cvarint_any 300 w (by omega) (by omega))
  rw [e1] at VI
  go_enter Try.func9, Try.ntmps9
  go_wp2_with fail
  refine (unhide VI).mono ?_
  rintro e w1 ⟨v1, rfl, hO⟩
  obtain ⟨b1, o1, d1, rfl, hc1⟩ := own_cells2 hO
  have B1 := hide hO.2
  have C1 := hide hc1
  have RA : Hid (Calls Try.prog 12 #[.slice (some ⟨w1.heap.size, 0, none⟩) 2 2, .int .i64 0] (w1.alloc (.cells #[.int .u8 172, .int .u8 2] 5)) fun e w' => e = .returned (.tuple #[.int .u64 300, .int .i64 2, .int .i64 0]) ∧ Below w1.heap.size w1 w') := hide (by
    have := crdv_any _ _ [172, 2] 0 (w1.alloc (.cells #[.int .u8 172, .int .u8 2] 5)) (box_ints (Box.new w1 #[.int .u8 172, .int .u8 2] 5) [172, 2] rfl (by decide) (by simp)) (by simp)
    rw [e2] at this
    exact this.mono (fun e v h => ⟨h.1, by rw [h.2]; exact al1p _ _⟩))
  clear hO hc1 VI
  go_wp2_with fail
  refine (unhide RA).mono ?_
  rintro e w2 ⟨rfl, hb2⟩
  have B2 := hide hb2
  have RB : Hid (Calls Try.prog 12 #[.slice (some ⟨w2.heap.size, 0, none⟩) 2 2, .int .i64 2] (w2.alloc (.cells #[.int .u8 172, .int .u8 2] 5)) fun e w' => e = .returned (.tuple #[.int .u64 0, .int .i64 0, .int .i64 6]) ∧ Below w2.heap.size w2 w') := hide (by
    have := crdv_any _ _ [172, 2] 2 (w2.alloc (.cells #[.int .u8 172, .int .u8 2] 5)) (box_ints (Box.new w2 #[.int .u8 172, .int .u8 2] 5) [172, 2] rfl (by decide) (by simp)) (by simp)
    rw [e3] at this
    exact this.mono (fun e v h => ⟨h.1, by rw [h.2]; exact al1p _ _⟩))
  clear RA hb2
  go_wp2_with fail
  refine (unhide RB).mono ?_
  rintro e w3 ⟨rfl, hb3⟩
  have B3 := hide (bl_tr (unhide B2) hb3)
  have RC : Hid (Calls Try.prog 17 #[.slice (some ⟨w3.heap.size, 0, none⟩) 7 7] (w3.alloc (.cells #[.int .u8 8, .int .u8 150, .int .u8 1, .int .u8 18, .int .u8 2, .int .u8 65, .int .u8 66] 5)) fun e w' => ∃ b o c b2 o2 c2, e = .returned (.tuple #[.slice (some ⟨b, o, none⟩) 2 c, .int .i64 0]) ∧ Hid (∀ u, Below w'.heap.size w' u →
    u.cell? ⟨b, o, none⟩ = some (.int .i64 1) ∧ u.cell? ⟨b, o + 2, none⟩ = some (.int .u64 150) ∧ u.cell? ⟨b, o + 5, none⟩ = some (.int .i64 2) ∧ u.cell? ⟨b, o + 7, none⟩ = some (.slice (some ⟨b2, o2, none⟩) 2 c2) ∧ u.cell? ⟨b2, o2, none⟩ = some (.int .u8 65) ∧ u.cell? ⟨b2, o2 + 1, none⟩ = some (.int .u8 66)) ∧ Below w3.heap.size w3 w') := hide (by
    have := cread_any _ _ [8, 150, 1, 18, 2, 65, 66] (w3.alloc (.cells #[.int .u8 8, .int .u8 150, .int .u8 1, .int .u8 18, .int .u8 2, .int .u8 65, .int .u8 66] 5)) (box_ints (Box.new w3 _ 5) [8, 150, 1, 18, 2, 65, 66] rfl (by decide) (by simp))
    rw [e4] at this
    refine this.mono (fun e v h => ?_)
    obtain ⟨v0, L, rfl, hf, hO⟩ := h
    obtain ⟨b, o, c, b2, o2, c2, rfl, hk⟩ := own_two (unhide hO) (unhide hf)
    exact ⟨b, o, c, b2, o2, c2, rfl, hide hk, bl_tr (al1p _ _) (unhide hO).1.2⟩)
  clear RB hb3 B2
  go_wp2_with fail
  refine (unhide RC).mono ?_
  rintro e w4 ⟨b4, o4, c4, b5, o5, c5, rfl, C4, hb4⟩
  have B4 := hide (bl_tr (unhide B3) hb4)
  have RD : Hid (Calls Try.prog 17 #[.slice (some ⟨w4.heap.size, 0, none⟩) 3 3] (w4.alloc (.cells #[.int .u8 18, .int .u8 3, .int .u8 65] 5)) fun e w' => ∃ v, e = .returned (.tuple #[v, .int .i64 6]) ∧ Below w4.heap.size w4 w') := hide (by
    have := cread_any _ _ [18, 3, 65] (w4.alloc (.cells #[.int .u8 18, .int .u8 3, .int .u8 65] 5)) (box_ints (Box.new w4 _ 5) [18, 3, 65] rfl (by decide) (by simp))
    rw [e5] at this
    refine this.mono (fun e v h => ?_)
    obtain ⟨v0, L, rfl, hf, hO⟩ := h
    exact ⟨v0, rfl, bl_tr (al1p _ _) (unhide hO).1.2⟩)
  clear RC hb4 B3
  go_wp2_with fail
  refine (unhide RD).mono ?_
  rintro e w5 ⟨v5, rfl, hb5⟩
  have B5 := hide (bl_tr (unhide B4) hb5)
  have C5 := hide (fun u (hu : Below w5.heap.size w5 u) => unhide C4 u (bl_tr hb5 hu))
  have kc := fun (w : World) (C : Array Value) (n c : Nat) => Go.Lib.run_convert_bytes_const (P := Try.prog) w 24 5 C n c Try.underlying24 Try.underlying5
  have RE : Hid (Calls Try.prog 20 #[.slice (some ⟨w5.heap.size + 1, 0, none⟩) 2 2] ((w5.alloc (.cells #[.int .u8 65, .int .u8 66] 5 (2, 3))).alloc (.cells #[.int .i64 1, .int .i64 0, .int .u64 150, .slice none 0 0, .int .i64 2, .int .i64 2, .int .u64 0, .slice (some ⟨w5.heap.size, 0, none⟩) 2 2] 40)) fun e w' => ∃ b o c, e = .returned (.tuple #[.slice (some ⟨b, o, none⟩) 7 c, .int .i64 0]) ∧ w'.cell? ⟨b, o + 6, none⟩ = some (.int .u8 66) ∧ Below w5.heap.size w5 w') := hide (by
    have := cwrite_any _ _ _ _ (two_fls w5 5 40) (fun a ha => by
      simp only [List.mem_cons, List.not_mem_nil, or_false] at ha
      rcases ha with rfl | rfl <;> simp)
    simp only [List.map_cons, List.map_nil, FA.f] at this
    rw [e6] at this
    refine this.mono (fun e v h => ?_)
    obtain ⟨v0, rfl, hO⟩ := h
    obtain ⟨b, o, c, rfl, hk⟩ := own_cell7 hO
    exact ⟨b, o, c, rfl, hk, bl_tr (al2p _ _ _) hO.2⟩)
  clear RD hb5 B4 C4 e1 e2 e3 e4 e5 e6
  go_wp2_with fail
  refine (unhide RE).mono ?_
  rintro e w6 ⟨b6, o6, c6, rfl, c66, hb6⟩
  obtain ⟨k0, k1⟩ := unhide C1 w6 (bl_tr (unhide B5) hb6)
  obtain ⟨m0, m2, m5, m7, s0, s1⟩ := unhide C5 w6 hb6
  have BB := hide (bl_tr (unhide B1) (bl_tr (unhide B5) hb6))
  have hstr : (convert 24 9 (.slice (some ⟨b5, o5, none⟩) 2 c5)).run Try.prog w6 = .ok (.string ⟨#[65, 66]⟩) w6 :=
    run_convert_bytes_arg w6 24 5 Try.underlying24 Try.underlying5 b5 o5 2 c5 [65, 66] rfl (fun i hi => by
      have hi2 : i = 0 ∨ i = 1 := by omega
      rcases hi2 with rfl | rfl
      · exact s0
      · exact s1) 9 Try.underlying9
  clear RE hb6 C1 C5 B5 B1 kc
  go_wp2_with fail
  go_ret
  exact ⟨rfl, unhide BB⟩
end Go.Proofs.Ytbcmfgohbppndaa
