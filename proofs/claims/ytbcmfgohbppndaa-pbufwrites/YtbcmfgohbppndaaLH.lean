/-
  Layer 6: the code's copied, All.
-/
import Derived.Test.YtbcmfgohbppndaaLE
namespace Go.Proofs.Ytbcmfgohbppndaa
open Go.RowKit
set_option linter.unusedVariables false

set_option maxRecDepth 100000 in
set_option maxHeartbeats 2000000 in
theorem ccopied_any (a : FA) (w : World) (h : FaIn w a) (hs : a.d.length ≤ 140737488355328) :
    Calls Try.prog 41 #[faV a] w fun e w' => ∃ a', e = .returned (faV a') ∧ Hid (a'.f = a.f ∧ FaIn w' a' ∧ OwnD w.heap.size w' a' ∧ Below w.heap.size w w') := by
  obtain ⟨n, wi, x, d, q, c⟩ := a
  have CL := hide (fun v (hv : Below w.heap.size w v) => cclone_any q c d v (h.below hv).2.2.2.ls hs)
  have HI := hide h
  clear h
  simp only at hs
  unfold faV
  simp only
  go_enter Try.func41, Try.ntmps41
  go_wp2_with fail
  refine (unhide CL _ (al2p _ _ _)).mono ?_
  rintro e w5 ⟨v5, rfl, O5⟩
  obtain ⟨q5, d5, hv5, L5, F5⟩ := O5.form
  subst hv5
  have HL5 := hide L5
  have HF5 := hide F5
  have HT5 := hide O5
  have M5 := hide (bl_tr (al2p _ _ _) O5.2)
  have G5 := hide (Box.below (Box.alloc (Box.new w #[.int .i64 n, .int .i64 wi, .int .u64 x, .slice q d.length c] 40) _) O5.2)
  have R5 := hide (Box.below (Box.new (w.alloc _) #[.int .i64 0, .int .i64 0, .int .u64 0, .slice none 0 0] 40) O5.2)
  simp only [alloc_size6] at R5
  have r5 := (unhide R5).cell
  have rf := (unhide R5).frozen
  have g5 := (unhide G5).cell
  have gf := (unhide G5).frozen
  have z5 : w.heap.size + 1 < w5.heap.size := (unhide R5).lt
  clear O5 L5 F5 CL
  go_wp2_with fail
  refine bodyPost_ret (v := faV ⟨n, wi, x, d, q5, d5⟩) (by simp [results, Try.results41, go_sem, faV, ((unhide R5).other (k := w.heap.size) (by omega) 3 (.slice q5 d.length d5)).set4 (.int .i64 n) (.int .i64 wi) (.int .u64 x) (.slice q5 d.length d5) |>.cell]) rfl ⟨⟨n, wi, x, d, q5, d5⟩, rfl, hide ⟨rfl, ?_, ?_, bset4 ((unhide M5).setCell (by simp) _) (by omega) _ _ _ _⟩⟩
  · have hf5 : Fresh (w.heap.size + 2) w5 q5 d.length := (unhide HF5).mono (by simp)
    exact ⟨(unhide HI).1, (unhide HI).2.1, (unhide HI).2.2.1, ((unhide HL5).far5 hf5 (by omega) (by omega) _ _ _ _ _ _).ints (unhide HI).2.2.2.2.2.1⟩
  · have hd5 : OwnD (w.heap.size + 2) w5 ⟨n, wi, x, d, q5, d5⟩ := OwnD.mono (own_d (unhide HT5)) (by simp)
    exact (OwnD.set5 (C := 0) hd5 (by omega) (by omega) _ _ _ _ _ _).mono (by omega)
set_option maxRecDepth 100000 in
set_option maxHeartbeats 2000000 in
theorem call_any (p : Option Addr) (c : Nat) (l : List FA) (num : Int) (w : World) (h : Fls w p c l) (hs : l.length * 48 ≤ 140737488355328) (hd : ∀ a ∈ l, a.d.length ≤ 140737488355328) :
    Calls Try.prog 23 #[.slice p l.length c, .int .i64 num] w fun e w' => ∃ v L, e = .returned v ∧ Hid (L.map FA.f = (allA l num).map FA.f) ∧ Hid (OwnL w w' v L) := by
  obtain ⟨i1, hi1, y1, z1, b1⟩ := info_parts Try.infoCF
  have A1 := hide h.1
  have AI := hide h.2
  have AD := hide hd
  have nl := h.1.len
  clear h hd
  go_enter Try.func23, Try.ntmps23
  go_wp2_with fail
  go_loopw [5, 10] (fun v iv wr => ∃ n : Nat, ∃ L : List FA, iv = .int .i64 n ∧ n ≤ l.length ∧ L.length ≤ n ∧ Hid (L.map FA.f = (allA (l.take n) num).map FA.f) ∧ Hid (OwnL w wr v L)) (fun _ iv _ => l.length - (intOf iv).toNat)
  case atStart => exact ⟨0, [], rfl, by omega, by simp, hide rfl, hide (OwnL.nil (Below.refl _ _))⟩
  case round =>
    obtain ⟨n, L, rfl, hn, hLl, HL, O⟩ := hrel
    by_cases hlt : n < l.length
    · have hi : (n : Int) < (l.length : Int) := by omega
      obtain ⟨b, o, rfl, hb, k0, k1, k2, k3⟩ := ((unhide A1).below (unhide O).1.2).at hlt
      have HT := hide (allA_take l num n hlt)
      have CC := hide (fun v hv => ccopied_any (l.getD n noFA) v ((unhide AI _ (getD_memF hlt)).below (bl_tr (unhide O).1.2 hv)) (unhide AD _ (getD_memF hlt)))
      generalize l.getD n noFA = a at k0 k1 k2 k3 HT CC
      unfold faV at CC
      by_cases hnm : a.n = num
      · have tn : (a.n == num) = true := by simp [hnm]
        have HT2 : Hid ((allA (l.take (n + 1)) num).map FA.f = L.map FA.f ++ [a.f]) := hide (by rw [unhide HT, if_pos tn, List.map_append, unhide HL]; rfl)
        clear HT hnm
        go_wp2_with fail
        refine (unhide CC _ (al1p _ _)).mono ?_
        rintro e w1 ⟨a', rfl, hq⟩
        obtain ⟨g1, g2, g3, g4⟩ := unhide hq
        have O1 := hide ((unhide O).1.below (bl_tr (al1p _ _) g4))
        have HT3 : Hid ((allA (l.take (n + 1)) num).map FA.f = (L ++ [a']).map FA.f) := hide (by rw [unhide HT2, List.map_append, ← g1]; rfl)
        have HI1 : Hid (∀ x ∈ L ++ [a'], FaIn w1 x ∧ OwnD w.heap.size w1 x) := hide (fun x h' => by
          rcases List.mem_append.1 h' with g | g
          · exact ⟨((unhide O).2 x g).1.below (bl_tr (al1p _ _) g4), ((unhide O).2 x g).2.below (bl_tr (al1p _ _) g4)⟩
          · simp at g; subst g
            exact ⟨g2, g3.mono (Nat.le_trans (unhide O).1.2.size (al1p _ _).size)⟩)
        clear hq g1 g2 g3 g4 CC HT2 O
        go_wp2_with (at_builtin; (refine wpList_append_fldG rfl _ _ 32 rfl w 40 i1 _ 48 Try.underlying32 hi1 y1 z1 b1 rfl _ L rfl ((unhide O1).below (al1p _ _)) ⟨_, 0, none⟩ 1 a' rfl (fa_alloc _ _ _) (by unfold maxLen; omega) (by omega) ?_; intro v2 w2 O2 G2; have HO2 : Hid (OwnL w w2 v2 (L ++ [a'])) := hide ⟨O2, fun x h' => ⟨(FaIn.grown ((unhide HI1 x h').1.below (al1p _ _)) ((unhide HI1 x h').2.below (al1p _ _)).ty ((unhide O1).below (al1p _ _)) (by decide) G2).1, OwnD.grown ((unhide HI1 x h').2.below (al1p _ _)) ((unhide O1).below (al1p _ _)) (by decide) G2⟩⟩; clear O2 G2))
        go_roundw
        case rel => exact ⟨n + 1, L ++ [a'], by go_num, by omega, by simp; omega, hide (unhide HT3).symm, HO2⟩
        case measure => simp [intOf]; omega
      · have tn : (a.n == num) = false := by simp [hnm]
        have HT2 : Hid (allA (l.take (n + 1)) num = allA (l.take n) num) := hide (by rw [unhide HT, if_neg (by rw [tn]; decide), List.append_nil])
        have HO2 := hide ((unhide O).below (al1p wr (Obj.cells #[.int .i64 a.n, .int .i64 a.wr, .int .u64 a.x, .slice a.q a.d.length a.c] 40)))
        clear HT hnm CC O
        go_wp2_with fail
        go_roundw
        case rel => exact ⟨n + 1, L, by go_num, by omega, by omega, hide (by rw [unhide HT2]; exact unhide HL), HO2⟩
        case measure => simp [intOf]; omega
    · have hi : ¬ (n : Int) < (l.length : Int) := by omega
      have HE : Hid (allA (l.take n) num = allA l num) := hide (by rw [List.take_of_length_le (by omega)])
      go_wp2_with fail
      go_ret
      exact ⟨_, rfl, L, hide (by rw [← unhide HE]; exact unhide HL), O⟩
end Go.Proofs.Ytbcmfgohbppndaa
