import Derived.Test.YtbcmfgohbppndaaKK

/-
  Layer 6: the document's Read.
-/
namespace Go.Proofs.Ytbcmfgohbppndaa
open Go.RowKit
set_option linter.unusedVariables false

theorem fa_alloc2 (w : World) (o : Obj) (f : FA) (t : TypeId) : ∀ j u, (faCells f)[j]? = some u → ((w.alloc o).alloc (.cells #[.int .i64 f.n, .int .i64 f.wr, .int .u64 f.x, .slice f.q f.d.length f.c] t)).cell? ((⟨w.heap.size + 1, 0, none⟩ : Addr).add j) = some u := by
  have := fa_alloc (w.alloc o) f t
  rw [alloc_size6] at this
  exact this
theorem read_step {b : List Int} {n : Nat} {L : List Fld} (hn : n < b.length) (h : readL b = (readL (b.drop n)).map (L ++ ·)) : readL b = match oneL (b.drop n) with
    | none => none
    | some y => (readL (b.drop (n + y.2))).map ((L ++ [y.1]) ++ ·) := by
  rw [h, readL_step (by simp; omega)]
  cases oneL (b.drop n) with
  | none => rfl
  | some y =>
    simp only [List.drop_drop]
    cases readL (b.drop (n + y.2)) <;> simp
set_option maxRecDepth 100000 in
set_option maxHeartbeats 4000000 in
theorem rread_any (p : Option Addr) (c : Nat) (b : List Int) (w : World) (h : Ints .u8 w p c b) :
    Calls Try.prog 18 #[.slice p b.length c] w fun e w' => (∃ q d L, e = .returned (.tuple #[.slice q L.length d, .int .i64 (readV b).2]) ∧ Hid (L.map FA.f = (readV b).1 ∧ Fls w' q d L)) ∧ Below w.heap.size w w' := by
  obtain ⟨i1, hi1, y1, z1, b1⟩ := info_parts Try.infoRF
  have A1 := hide h
  have bl := h.len
  have hB := hide (wf_isB h.2.2.1)
  have HV : Hid (∀ R : List Fld × Int, readV b = R → R = if 4194304 < b.length then (([], 8) : List Fld × Int) else match readL b with
      | none => ([], 6)
      | some l => (l, 0)) := hide (fun R hR => by rw [← hR]; unfold readV; split <;> first | rfl | (cases readL b <;> rfl))
  generalize hR : readV b = R
  replace HV := hide (unhide HV R hR)
  clear hR h
  obtain ⟨R1, R2⟩ := R
  simp only
  by_cases hbig : 4194304 < b.length
  · have hbi : (4194304 : Int) < (b.length : Int) := by omega
    have HE : Hid (R1 = [] ∧ R2 = 8) := hide (by have := unhide HV; rw [if_pos hbig] at this; simpa using this)
    clear HV hbig
    go_enter Try.func18, Try.ntmps18
    go_wp2_with fail
    go_ret2
    obtain ⟨g1, g2⟩ := unhide HE
    subst g1 g2
    exact ⟨⟨none, 0, [], rfl, hide ⟨rfl, Flc.nil _, fun a ha => by cases ha⟩⟩, Below.refl _ _⟩
  · have hbi : ¬ (4194304 : Int) < (b.length : Int) := by omega
    have hs : b.length ≤ 4194304 := by omega
    have HV2 := hide (unhide HV)
    rw [if_neg hbig] at HV2
    clear HV hbig
    go_enter Try.func18, Try.ntmps18
    go_wp2_with fail
    go_loopw [4, 5] (fun v iv wr => ∃ n : Nat, ∃ L : List FA, iv = .int .i64 n ∧ n ≤ b.length ∧ L.length ≤ n ∧ Hid (readL b = (readL (b.drop n)).map (L.map FA.f ++ ·)) ∧ Hid (OwnF 50 w wr v L) ∧ Hid (∀ a ∈ L, FaIn wr a ∧ DTy 5 wr a)) (fun _ iv _ => b.length - (intOf iv).toNat)
    case atStart => exact ⟨0, [], rfl, by omega, by simp, hide (by rw [List.drop_zero]; cases readL b <;> rfl), hide (OwnF.nil _ _ _ (Below.refl _ _)), hide (fun a ha => by cases ha)⟩
    case round =>
      obtain ⟨n, L, rfl, hn, hLl, HR, O, HI⟩ := hrel
      by_cases hlt : n < b.length
      · have hi : (n : Int) < (b.length : Int) := by omega
        have ON := hide (rone_any p c b n wr ((unhide A1).below (unhide O).2) hn hs)
        have HS := hide (read_step hlt (unhide HR))
        have HK : Hid (∀ y, oneL (b.drop n) = some y → 1 ≤ y.2 ∧ n + y.2 ≤ b.length) := hide (fun y hy => by
          obtain ⟨_, _, _, g4, g5⟩ := oneL_may (isB_drop (unhide hB) n) (f := y.1) (k := y.2) hy
          simp at g5
          omega)
        clear HR
        cases hd : oneL (b.drop n) with
        | none =>
          rw [hd] at ON HS
          simp only [Option.isSome_none] at ON HS
          have HE : Hid (R1 = [] ∧ R2 = 6) := hide (by have := unhide HV2; rw [unhide HS] at this; simpa using this)
          clear HS HK hd
          go_wp2_with fail
          refine (unhide ON).mono ?_
          rintro e w1 ⟨⟨a, nx, rfl, _⟩, hb1⟩
          have BB := hide (bl_tr (bl_tr (unhide O).2 hb1) (al1p w1 (Obj.cells #[.int .i64 a.n, .int .i64 a.wr, .int .u64 a.x, .slice a.q a.d.length a.c] 50)))
          clear hb1 ON
          unfold faV
          go_wp2_with fail
          go_ret2
          obtain ⟨g1, g2⟩ := unhide HE
          subst g1 g2
          exact ⟨⟨none, 0, [], rfl, hide ⟨rfl, Flc.nil _, fun a ha => by cases ha⟩⟩, unhide BB⟩
        | some y =>
          obtain ⟨f, k⟩ := y
          rw [hd] at ON HS
          simp only [Option.isSome_some] at ON HS
          obtain ⟨k1, k2⟩ := unhide HK (f, k) hd
          simp only at k1 k2
          clear HK hd
          go_wp2_with fail
          refine (unhide ON).mono ?_
          rintro e w1 ⟨⟨a, nx, rfl, hq⟩, hb1⟩
          obtain ⟨ha1, ha2, ha3, ha4, ha5⟩ := unhide hq (f, k) rfl
          simp only at ha1 ha2
          subst ha1 ha2
          have O1 := hide ((unhide O).below hb1)
          have HI1 : Hid (∀ a' ∈ L ++ [a], FaIn w1 a' ∧ DTy 5 w1 a') := hide (fun a' h' => by
            rcases List.mem_append.1 h' with g | g
            · exact ⟨(unhide HI a' g).1.below hb1, (unhide HI a' g).2.below hb1⟩
            · simp at g; subst g; exact ⟨ha3, ha5⟩)
          have HS2 : Hid (readL b = (readL (b.drop (n + k))).map ((L ++ [a]).map FA.f ++ ·)) := hide (by rw [unhide HS, List.map_append]; rfl)
          obtain ⟨m, hm⟩ : ∃ m, n + k = m := ⟨_, rfl⟩
          rw [hm] at HS2 k2 ⊢
          have hm1 : n < m := by omega
          clear hb1 ON hq ha3 ha4 ha5 HS HI O hm
          unfold faV
          go_wp2_with (at_builtin; (refine wpList_append_fldG rfl _ _ 35 rfl w 50 i1 _ 48 Try.underlying35 hi1 y1 z1 b1 rfl _ L rfl ((unhide O1).below (al2p _ _ _)) ⟨_, 0, none⟩ 1 a rfl (fa_alloc2 _ _ _ _) (by unfold maxLen; omega) (by omega) ?_; intro v2 w2 O2 G2; have HO2 := hide O2; have HI2 : Hid (∀ a' ∈ L ++ [a], FaIn w2 a' ∧ DTy 5 w2 a') := hide (fun a' h' => FaIn.grown ((unhide HI1 a' h').1.below (al2p _ _ _)) ((unhide HI1 a' h').2.below (al2p _ _ _)) ((unhide O1).below (al2p _ _ _)) (by decide) G2); clear O2 G2))
          go_roundw
          case rel => exact ⟨m, L ++ [a], rfl, by omega, by simp; omega, HS2, HO2, HI2⟩
          case measure => simp [intOf]; omega
      · have hi : ¬ (n : Int) < (b.length : Int) := by omega
        have HE : Hid (R1 = L.map FA.f ∧ R2 = 0) := hide (by
          have h1 := unhide HR
          rw [List.drop_of_length_le (by omega), readL_nil] at h1
          simp only [Option.map_some, List.append_nil] at h1
          have := unhide HV2
          rw [h1] at this
          simpa using this)
        obtain ⟨q, d, hv, hL, _⟩ := (unhide O).form
        have HF : Hid (Fls wr q d L) := hide ⟨hL, fun a ha => (unhide HI a ha).1⟩
        have BB := hide (unhide O).2
        subst hv
        clear hL O HR HI
        go_wp2_with fail
        go_ret2
        obtain ⟨g1, g2⟩ := unhide HE
        subst g1 g2
        exact ⟨⟨q, d, L, rfl, hide ⟨rfl, unhide HF⟩⟩, unhide BB⟩
end Go.Proofs.Ytbcmfgohbppndaa
