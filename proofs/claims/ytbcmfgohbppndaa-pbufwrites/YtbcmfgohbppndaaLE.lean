/-
  Layer 6: the code's Read.
-/
import Derived.Test.YtbcmfgohbppndaaLD
import Derived.WalkMore
namespace Go.Proofs.Ytbcmfgohbppndaa
open Go.RowKit
set_option linter.unusedVariables false

/-- Fields in memory of the call's own. -/
def OwnL (w w' : World) (v : Value) (L : List FA) : Prop := OwnF 40 w w' v L ∧ ∀ a ∈ L, FaIn w' a ∧ OwnD w.heap.size w' a
theorem OwnL.nil {w w' : World} (h : Below w.heap.size w w') : OwnL w w' (.slice none 0 0) [] := ⟨OwnF.nil _ _ _ h, fun a ha => by cases ha⟩
theorem OwnL.fls {w w' : World} {v : Value} {L : List FA} (h : OwnL w w' v L) : ∃ q d, v = .slice q L.length d ∧ Fls w' q d L := by
  obtain ⟨q, d, hv, hc, _⟩ := h.1.form
  exact ⟨q, d, hv, hc, fun a ha => (h.2 a ha).1⟩
theorem OwnL.below {w w' w'' : World} {v : Value} {L : List FA} (h : OwnL w w' v L) (hb : Below w'.heap.size w' w'') : OwnL w w'' v L :=
  ⟨h.1.below hb, fun a ha => ⟨(h.2 a ha).1.below hb, (h.2 a ha).2.below hb⟩⟩
set_option maxRecDepth 100000 in
set_option maxHeartbeats 4000000 in
theorem cpartsF_any (p : Option Addr) (c : Nat) (b : List Int) (w : World) (h : Ints .u8 w p c b) (hs : b.length ≤ 4194304) :
    Calls Try.prog 34 #[.slice p b.length c, .func (.func 35) #[] #[]] w fun e w' => ∃ v L, e = .returned (.tuple #[v, .int .i64 (errO (readL b))]) ∧ Hid (L.map FA.f = (readL b).getD []) ∧ Hid (OwnL w w' v L) := by
  obtain ⟨i1, hi1, y1, z1, b1⟩ := info_parts Try.infoCF
  have A1 := hide h
  have hB := hide (wf_isB h.2.2.1)
  clear h
  go_enter Try.func34, Try.ntmps34
  go_wp2_with fail
  go_step3
  go_wp2_with fail
  go_step3
  go_wp2_with fail
  go_loopw [6, 7] (fun v iv wr => ∃ n : Nat, ∃ L : List FA, iv = .int .i64 n ∧ n ≤ b.length ∧ L.length ≤ n ∧ Hid (readL b = (readL (b.drop n)).map (L.map FA.f ++ ·)) ∧ Hid (OwnL w wr v L)) (fun _ iv _ => b.length - (intOf iv).toNat)
  case atStart => exact ⟨0, [], rfl, by omega, by simp, hide (by rw [List.drop_zero]; cases readL b <;> rfl), hide (OwnL.nil (Below.refl _ _))⟩
  case round =>
    obtain ⟨n, L, rfl, hn, hLl, HR, O⟩ := hrel
    by_cases hlt : n < b.length
    · have hi : ((n : Int) == (b.length : Int)) = false := by rw [beq_eq_false_iff_ne]; omega
      have ON := hide (cone_any p c b n wr ((unhide A1).below (unhide O).1.2) hn hs)
      have HS := hide (read_step hlt (unhide HR))
      have HK : Hid (∀ y, oneL (b.drop n) = some y → 1 ≤ y.2 ∧ n + y.2 ≤ b.length) := hide (fun y hy => by
        obtain ⟨_, _, _, g4, g5⟩ := oneL_may (isB_drop (unhide hB) n) (f := y.1) (k := y.2) hy
        simp at g5
        omega)
      clear HR
      cases hd : oneL (b.drop n) with
      | none =>
        rw [hd] at ON HS
        simp only [errO, Option.isSome_none] at ON HS
        have HE : Hid (readL b = none) := hide (unhide HS)
        clear HS HK hd
        go_wp2_with fail
        refine (unhide ON).mono ?_
        rintro e w1 ⟨⟨a, nx, rfl, _⟩, hb1⟩
        have BB := hide (bl_tr (bl_tr (unhide O).1.2 hb1) (al1p w1 (Obj.cells #[.int .i64 a.n, .int .i64 a.wr, .int .u64 a.x, .slice a.q a.d.length a.c] 40)))
        clear hb1 ON
        unfold faV
        go_wp2_with fail
        rw [Exit.noGoto_ret]
        go_ret2
        exact ⟨_, [], by rw [unhide HE]; rfl, hide (by rw [unhide HE]; rfl), hide (OwnL.nil (unhide BB))⟩
      | some y =>
        obtain ⟨f, k⟩ := y
        rw [hd] at ON HS
        simp only [errO, Option.isSome_some] at ON HS
        obtain ⟨k1, k2⟩ := unhide HK (f, k) hd
        simp only at k1 k2
        clear HK hd
        go_wp2_with fail
        refine (unhide ON).mono ?_
        rintro e w1 ⟨⟨a, nx, rfl, hq⟩, hb1⟩
        obtain ⟨ha1, ha2, ha3, ha4⟩ := unhide hq (f, k) rfl
        simp only at ha1 ha2
        subst ha1 ha2
        have O1 := hide ((unhide O).1.below hb1)
        have HI1 : Hid (∀ a' ∈ L ++ [a], FaIn w1 a' ∧ OwnD w.heap.size w1 a') := hide (fun a' h' => by
          rcases List.mem_append.1 h' with g | g
          · exact ⟨((unhide O).2 a' g).1.below hb1, ((unhide O).2 a' g).2.below hb1⟩
          · simp at g; subst g; exact ⟨ha3, ha4.mono (unhide O).1.2.size⟩)
        have HS2 : Hid (readL b = (readL (b.drop (n + k))).map ((L ++ [a]).map FA.f ++ ·)) := hide (by rw [unhide HS, List.map_append]; rfl)
        obtain ⟨m, hm⟩ : ∃ m, n + k = m := ⟨_, rfl⟩
        rw [hm] at HS2 k2 ⊢
        have hm1 : n < m := by omega
        clear hb1 ON hq ha3 ha4 HS O hm
        unfold faV
        go_wp2_with (at_builtin; (refine wpList_append_fldG rfl _ _ 32 rfl w 40 i1 _ 48 Try.underlying32 hi1 y1 z1 b1 rfl _ L rfl ((unhide O1).below (al2p _ _ _)) ⟨_, 0, none⟩ 1 a rfl (fa_alloc2 _ _ _ _) (by unfold maxLen; omega) (by omega) ?_; intro v2 w2 O2 G2; have HO2 : Hid (OwnL w w2 v2 (L ++ [a])) := hide ⟨O2, fun a' h' => ⟨(FaIn.grown ((unhide HI1 a' h').1.below (al2p _ _ _)) ((unhide HI1 a' h').2.below (al2p _ _ _)).ty ((unhide O1).below (al2p _ _ _)) (by decide) G2).1, OwnD.grown ((unhide HI1 a' h').2.below (al2p _ _ _)) ((unhide O1).below (al2p _ _ _)) (by decide) G2⟩⟩; clear O2 G2))
        go_roundw
        case rel => exact ⟨m, L ++ [a], rfl, by omega, by simp; omega, HS2, HO2⟩
        case measure => simp [intOf]; omega
    · have en : n = b.length := by omega
      have hi : ((n : Int) == (b.length : Int)) = true := by rw [en]; simp
      have HE : Hid (readL b = some (L.map FA.f)) := hide (by
        have h1 := unhide HR
        rw [List.drop_of_length_le (by omega), readL_nil] at h1
        simp only [Option.map_some, List.append_nil] at h1
        exact h1)
      have HO := O
      clear HR O en
      go_wp2_with fail
      rw [Exit.noGoto_ret]
      go_ret2
      exact ⟨_, L, by rw [unhide HE]; rfl, hide (by rw [unhide HE]; rfl), HO⟩
set_option maxRecDepth 100000 in
theorem cread_any (p : Option Addr) (c : Nat) (b : List Int) (w : World) (h : Ints .u8 w p c b) :
    Calls Try.prog 17 #[.slice p b.length c] w fun e w' => ∃ v L, e = .returned (.tuple #[v, .int .i64 (readV b).2]) ∧ Hid (L.map FA.f = (readV b).1) ∧ Hid (OwnL w w' v L) := by
  have bl := h.len
  by_cases hbig : 4194304 < b.length
  · have e : readV b = ([], 8) := by unfold readV; rw [if_pos hbig]
    have hbi : (4194304 : Int) < (b.length : Int) := by omega
    rw [e]
    go_enter Try.func17, Try.ntmps17
    go_wp2_with fail
    go_ret2
    exact ⟨_, [], rfl, hide rfl, hide (OwnL.nil (Below.refl _ _))⟩
  · have hbi : ¬ (4194304 : Int) < (b.length : Int) := by omega
    have PF := hide (cpartsF_any p c b w h (by omega))
    have HE : Hid (readV b = ((readL b).getD [], errO (readL b))) := hide (by
      unfold readV
      rw [if_neg hbig]
      cases readL b <;> rfl)
    rw [unhide HE]
    clear h HE
    generalize errO (readL b) = E at PF ⊢
    generalize (readL b).getD [] = G at PF ⊢
    go_enter Try.func17, Try.ntmps17
    go_wp2_with fail
    refine (unhide PF).mono ?_
    rintro e w1 ⟨v, L, rfl, h1, h2⟩
    go_wp2_with fail
    go_ret2
    exact ⟨_, L, rfl, h1, h2⟩
end Go.Proofs.Ytbcmfgohbppndaa
