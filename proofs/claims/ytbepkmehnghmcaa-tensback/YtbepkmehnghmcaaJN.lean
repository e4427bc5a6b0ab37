import Derived.Test.YtbepkmehnghmcaaJM

/-
  Layer 5: the code's FromBytes.
-/
namespace Go.Proofs.Ytbepkmehnghmcaa
open Go.RowKit
set_option linter.unusedVariables false

set_option maxRecDepth 100000 in
set_option maxHeartbeats 400000 in
theorem tfrom_new (k : Int) (p2 p3 : Option Addr) (c2 c3 : Nat) (ds2 b : List Int) (w : World) (hk : (Lit.int .i64 k).wf = true) (h2 : Ints .i64 w p2 c2 ds2) (h3 : Ints .u8 w p3 c3 b) (hn : newE k ds2 ≠ 0) :
    Calls Try.prog 30 #[.int .i64 k, .slice p2 ds2.length c2, .slice p3 b.length c3] w fun e w' => (∃ C, e = .returned (.tuple #[tenV (fromV k ds2 b) C, .int .i64 (fromE k ds2 b)]) ∧ TenOwn w.heap.size w' (fromV k ds2 b) C) ∧ Below w.heap.size w w' := by
  have SZ := hide (fun v (hv : Below w.heap.size w v) => sized_any k p2 c2 ds2 v (h2.below hv))
  have bl := h3.len
  have e1 : fromE k ds2 b = newE k ds2 := by unfold fromE; rw [if_pos hn]
  have e2 : fromV k ds2 b = noTen := by unfold fromV; rw [if_neg (by rw [e1]; exact hn)]
  rw [e1, e2]
  generalize newE k ds2 = E at hn SZ ⊢
  generalize sizedN k ds2 = N at SZ
  have t1 : (E != 0) = true := bneT hn
  clear e1 e2 hn h2 h3 hk
  go_enter Try.func30, Try.ntmps30
  go_wp2_with fail
  refine (unhide SZ _ (al1 _ _)).mono ?_
  rintro e v ⟨rfl, hv⟩
  replace hv := hv.symm
  subst hv
  go_wp2_with fail
  exact bodyPost_ret (v := .tuple #[tenV noTen noTA, .int .i64 E]) (by simp [results, Try.results30, go_sem, tenV, tenCells, noTen, noTA]) rfl ⟨⟨noTA, rfl, noTen_own _ _⟩, al1 _ _⟩
theorem from_parts {k : Int} {ds : List Int} (hn : newE k ds = 0) : known k = true ∧ (sizeV ds).2 = 0 := by
  cases hh : known k
  · unfold newE at hn; rw [if_pos hh] at hn; cases hn
  · unfold newE at hn; rw [if_neg (by rw [hh]; decide)] at hn; exact ⟨rfl, hn⟩
set_option maxRecDepth 100000 in
set_option maxHeartbeats 400000 in
theorem tfrom_len (k : Int) (p2 p3 : Option Addr) (c2 c3 : Nat) (ds2 b : List Int) (w : World) (hk : (Lit.int .i64 k).wf = true) (h2 : Ints .i64 w p2 c2 ds2) (h3 : Ints .u8 w p3 c3 b) (hn : newE k ds2 = 0) (hl : ¬ (b.length : Int) = (sizeV ds2).1 * widthV k) :
    Calls Try.prog 30 #[.int .i64 k, .slice p2 ds2.length c2, .slice p3 b.length c3] w fun e w' => (∃ C, e = .returned (.tuple #[tenV (fromV k ds2 b) C, .int .i64 (fromE k ds2 b)]) ∧ TenOwn w.heap.size w' (fromV k ds2 b) C) ∧ Below w.heap.size w w' := by
  have SZ := hide (fun v (hv : Below w.heap.size w v) => sized_any k p2 c2 ds2 v (h2.below hv))
  have bl := h3.len
  obtain ⟨hkn, hn2⟩ := from_parts hn
  obtain ⟨N, hN, hN4⟩ := size_nat ds2
  have eN : sizedN k ds2 = (N : Int) := by unfold sizedN; rw [if_neg (by rw [hkn]; decide), hN]
  rw [hn, eN] at SZ
  have WD := hide (fun w => twidth_any k w)
  have e1 : fromE k ds2 b = 3 := by unfold fromE; rw [if_neg (by simp [hn]), if_pos hl]
  have e2 : fromV k ds2 b = noTen := by unfold fromV; rw [if_neg (by rw [e1]; decide)]
  rw [e1, e2]
  rw [hN] at hl
  have hw : 0 ≤ widthV k ∧ widthV k ≤ 8 := by unfold widthV; (repeat' split) <;> omega
  generalize widthV k = W at hl hw WD
  obtain ⟨w0, w8⟩ := hw
  have hm : 0 ≤ (N : Int) * W := Int.mul_nonneg (by omega) w0
  have hm2 : (N : Int) * W ≤ 4096 * 8 := Int.mul_le_mul (by omega) w8 w0 (by omega)
  have t1 : ((b.length : Int) != (N : Int) * W) = true := bneT hl
  clear e1 e2 hn h2 h3 hk hkn hn2 hN eN hl
  go_enter Try.func30, Try.ntmps30
  go_wp2_with fail
  refine (unhide SZ _ (al1 _ _)).mono ?_
  rintro e v ⟨rfl, hv⟩
  replace hv := hv.symm
  subst hv
  go_wp2_with fail
  refine (unhide WD _).mono ?_
  rintro e v ⟨rfl, hv⟩
  replace hv := hv.symm
  subst hv
  go_wp2_with fail
  exact bodyPost_ret (v := .tuple #[tenV noTen noTA, .int .i64 3]) (by simp [results, Try.results30, go_sem, tenV, tenCells, noTen, noTA]) rfl ⟨⟨noTA, rfl, noTen_own _ _⟩, al1 _ _⟩
set_option maxRecDepth 100000 in
set_option maxHeartbeats 400000 in
theorem tfrom_bad (k : Int) (p2 p3 : Option Addr) (c2 c3 : Nat) (ds2 b : List Int) (w : World) (hk : (Lit.int .i64 k).wf = true) (h2 : Ints .i64 w p2 c2 ds2) (h3 : Ints .u8 w p3 c3 b) (hn : newE k ds2 = 0) (hl : (b.length : Int) = (sizeV ds2).1 * widthV k) (h9 : k = 9) (hb : ∃ i : Nat, i < b.length ∧ 1 < hv b i 1 1) :
    Calls Try.prog 30 #[.int .i64 k, .slice p2 ds2.length c2, .slice p3 b.length c3] w fun e w' => (∃ C, e = .returned (.tuple #[tenV (fromV k ds2 b) C, .int .i64 (fromE k ds2 b)]) ∧ TenOwn w.heap.size w' (fromV k ds2 b) C) ∧ Below w.heap.size w w' := by
  have SZ := hide (fun v (hv : Below w.heap.size w v) => sized_any k p2 c2 ds2 v (h2.below hv))
  have bl := h3.len
  obtain ⟨hkn, hn2⟩ := from_parts hn
  obtain ⟨N, hN, hN4⟩ := size_nat ds2
  have eN : sizedN k ds2 = (N : Int) := by unfold sizedN; rw [if_neg (by rw [hkn]; decide), hN]
  rw [hn, eN] at SZ
  have WD := hide (fun w => twidth_any k w)
  have e1 : fromE k ds2 b = 1 := by unfold fromE; rw [if_neg (by simp [hn]), if_neg (by simp [hl]), if_pos ⟨h9, hb⟩]
  have e2 : fromV k ds2 b = noTen := by unfold fromV; rw [if_neg (by rw [e1]; decide)]
  rw [e1, e2]
  rw [hN] at hl
  subst h9
  have ew : widthV 9 = 1 := rfl
  rw [ew] at hl WD
  have TR := hide (fun v (hv : Below w.heap.size w v) => truths_any p3 c3 b v (h3.below hv))
  rw [decide_eq_false (fun k => k hb)] at TR
  have t1 : ((b.length : Int) != (N : Int)) = false := bneF (by omega)
  clear e1 e2 hn h2 h3 hk hkn hn2 hN eN hl ew hb
  go_enter Try.func30, Try.ntmps30
  go_wp2_with fail
  refine (unhide SZ _ (al1 _ _)).mono ?_
  rintro e v ⟨rfl, hv⟩
  replace hv := hv.symm
  subst hv
  go_wp2_with fail
  refine (unhide WD _).mono ?_
  rintro e v ⟨rfl, hv⟩
  replace hv := hv.symm
  subst hv
  go_wp2_with fail
  refine (unhide TR _ (al1 _ _)).mono ?_
  rintro e v ⟨rfl, hv⟩
  replace hv := hv.symm
  subst hv
  go_wp2_with fail
  exact bodyPost_ret (v := .tuple #[tenV noTen noTA, .int .i64 1]) (by simp [results, Try.results30, go_sem, tenV, tenCells, noTen, noTA]) rfl ⟨⟨noTA, rfl, noTen_own _ _⟩, al1 _ _⟩
set_option maxRecDepth 100000 in
set_option maxHeartbeats 2000000 in
theorem tfrom_F (k : Int) (p2 p3 : Option Addr) (c2 c3 : Nat) (ds2 b : List Int) (w : World) (hk : (Lit.int .i64 k).wf = true) (h2 : Ints .i64 w p2 c2 ds2) (h3 : Ints .u8 w p3 c3 b) (hn : newE k ds2 = 0) (hl : (b.length : Int) = (sizeV ds2).1 * widthV k) (hb : k = 9 → ¬ ∃ i : Nat, i < b.length ∧ 1 < hv b i 1 1) (hk1 : k = 1) :
    Calls Try.prog 30 #[.int .i64 k, .slice p2 ds2.length c2, .slice p3 b.length c3] w fun e w' => (∃ C, e = .returned (.tuple #[tenV (fromV k ds2 b) C, .int .i64 (fromE k ds2 b)]) ∧ TenOwn w.heap.size w' (fromV k ds2 b) C) ∧ Below w.heap.size w w' := by
  have SZ := hide (fun v (hv : Below w.heap.size w v) => sized_any k p2 c2 ds2 v (h2.below hv))
  have bl := h3.len
  obtain ⟨hkn, hn2⟩ := from_parts hn
  obtain ⟨N, hN, hN4⟩ := size_nat ds2
  have eN : sizedN k ds2 = (N : Int) := by unfold sizedN; rw [if_neg (by rw [hkn]; decide), hN]
  rw [hn, eN] at SZ
  have WD := hide (fun w => twidth_any k w)
  have e1 : fromE k ds2 b = 0 := by unfold fromE; rw [if_neg (by simp [hn]), if_neg (by simp [hl]), if_neg (fun h => hb h.1 h.2)]
  have e2 : fromV k ds2 b = fromT k ds2 b := by unfold fromV; rw [if_pos e1]
  rw [e1, e2]
  rw [hN] at hl
  have hNn : (sizeV ds2).1.toNat = N := by rw [hN]; omega
  subst hk1
  have eT : fromT 1 ds2 b = (1, ds2, (upL N).map (elF b), [], []) := by unfold fromT; rw [hNn]; rfl
  rw [eT]
  have ew : widthV 1 = 4 := rfl
  rw [ew] at hl WD
  have hbN : b.length = N * 4 := by omega
  have dl := size_len hn2
  have CP := hide (fun v (hv : Below w.heap.size w v) => copied_int p2 c2 ds2 v (h2.below hv).ls (by omega))
  have RD := hide (fun v (hv : Below w.heap.size w v) => read_uint32 p3 c3 N b v (h3.below hv) hbN (by omega))
  have wd := hide h2.2.2.1
  have WX : Hid (∀ x ∈ (upL N).map (elF b), (Lit.int .u32 x).wf = true) := hide (fun x hx => by
    obtain ⟨a, ha, rfl⟩ := List.mem_map.1 hx
    unfold upL at ha
    obtain ⟨i, hi, rfl⟩ := List.mem_map.1 ha
    have hi2 : i < N := by simpa using hi
    obtain ⟨s0, s1⟩ := hv_range h3.2.2.1 (i * 4) 4 (by omega) (by omega) 4 (by omega)
    unfold elF
    rw [Int.toNat_natCast]
    exact WalkArith5 s0 (by have : (256 : Int) ^ 4 = 4294967296 := by decide
                            omega))
  have WD2 := WD
  have t1 : ((b.length : Int) != (N : Int) * 4) = false := bneF (by omega)
  unfold tenV tenCells
  simp only [List.length_map, List.length_nil, upL_length]
  clear e1 e2 eT hn h2 h3 hk hkn hn2 hN eN hl ew hNn hbN hb
  go_enter Try.func30, Try.ntmps30
  go_wp2_with fail
  refine (unhide SZ _ (al1 _ _)).mono ?_
  rintro e v ⟨rfl, hv⟩
  replace hv := hv.symm
  subst hv
  go_wp2_with fail
  refine (unhide WD _).mono ?_
  rintro e v ⟨rfl, hv⟩
  replace hv := hv.symm
  subst hv

  go_wp2_with fail
  refine (unhide CP _ (al1 _ _)).mono ?_
  rintro e w1 ⟨⟨q1, d1, rfl, L1, F1⟩, hb⟩
  have HL1 := hide L1
  have HF1 := hide F1
  have R1 := hide (Box.below (Box.new w #[.int .i64 0, .slice none 0 0, .slice none 0 0, .slice none 0 0, .slice none 0 0] 27) hb)
  have B1 := hide (bl_tr (al1 _ _) hb)
  have r1 := (unhide R1).cell
  have f1 := (unhide R1).frozen
  have z1 : w.heap.size < w1.heap.size := (unhide R1).lt
  clear hb L1 F1 CP SZ WD t1
  go_wp2_with fail
  refine (unhide WD2 _).mono ?_
  rintro e v ⟨rfl, hv⟩
  replace hv := hv.symm
  subst hv
  go_wp2_with fail
  refine (unhide RD _ (bl_tr (unhide B1) (al1 _ _))).mono ?_
  rintro e w2 ⟨⟨q2, d2, rfl, L2, F2⟩, hb⟩
  have HL2 := hide L2
  have HF2 : Hid (Fresh (w1.alloc (Obj.cells #[.int .i64 1, .slice q1 ds2.length d1, .slice none 0 0, .slice none 0 0, .slice none 0 0] 27)).heap.size w2 q2 ((upL N).map (elF b)).length) := hide (by rw [List.length_map, upL_length]; exact F2)
  have M2 := hide hb
  have B2 := hide (bl_tr (unhide B1) (bl_tr (al1 _ _) hb))
  have R2 := hide ((unhide R1).below (bl_tr (al1 _ _) hb))
  have X2 := hide (Box.below (Box.new w1 #[.int .i64 1, .slice q1 ds2.length d1, .slice none 0 0, .slice none 0 0, .slice none 0 0] 27) hb)
  clear r1 f1 L2 F2 hb RD
  have r2 := (unhide R2).cell
  have f2 := (unhide R2).frozen
  have x2 := (unhide X2).cell
  have g2 := (unhide X2).frozen
  have z2 : w1.heap.size < w2.heap.size := (unhide X2).lt
  go_wp2_with fail
  refine bodyPost_ret (v := .tuple #[.agg #[.int .i64 1, .slice q1 ds2.length d1, .slice q2 N d2, .slice none 0 0, .slice none 0 0], .int .i64 0]) (by simp [results, Try.results30, go_sem, ((unhide R2).other (k := w1.heap.size) (by omega) 2 (.slice q2 N d2)).set5 (.int .i64 1) (.slice q1 ds2.length d1) (.slice q2 N d2) (.slice none 0 0) (.slice none 0 0) |>.cell]) rfl ⟨⟨⟨q1, d1, q2, d2, none, 0, none, 0⟩, by simp, ?_⟩, bset5 ((unhide B2).setCell (by simp <;> omega) _) (by omega) _ _ _ _ _⟩
  exact (end_f rfl (unhide M2) (show w.heap.size < w.heap.size + 1 by omega) (by omega) (unhide HL1) ((unhide HF1).mono (by simp)) (unhide wd) (unhide HL2) (unhide HF2) (unhide WX) _ _ _ _ _ _ _).mono (by omega)
set_option maxRecDepth 100000 in
set_option maxHeartbeats 2000000 in
theorem tfrom_I (k : Int) (p2 p3 : Option Addr) (c2 c3 : Nat) (ds2 b : List Int) (w : World) (hk : (Lit.int .i64 k).wf = true) (h2 : Ints .i64 w p2 c2 ds2) (h3 : Ints .u8 w p3 c3 b) (hn : newE k ds2 = 0) (hl : (b.length : Int) = (sizeV ds2).1 * widthV k) (hb : k = 9 → ¬ ∃ i : Nat, i < b.length ∧ 1 < hv b i 1 1) (hk7 : k = 7) :
    Calls Try.prog 30 #[.int .i64 k, .slice p2 ds2.length c2, .slice p3 b.length c3] w fun e w' => (∃ C, e = .returned (.tuple #[tenV (fromV k ds2 b) C, .int .i64 (fromE k ds2 b)]) ∧ TenOwn w.heap.size w' (fromV k ds2 b) C) ∧ Below w.heap.size w w' := by
  have SZ := hide (fun v (hv : Below w.heap.size w v) => sized_any k p2 c2 ds2 v (h2.below hv))
  have bl := h3.len
  obtain ⟨hkn, hn2⟩ := from_parts hn
  obtain ⟨N, hN, hN4⟩ := size_nat ds2
  have eN : sizedN k ds2 = (N : Int) := by unfold sizedN; rw [if_neg (by rw [hkn]; decide), hN]
  rw [hn, eN] at SZ
  have WD := hide (fun w => twidth_any k w)
  have e1 : fromE k ds2 b = 0 := by unfold fromE; rw [if_neg (by simp [hn]), if_neg (by simp [hl]), if_neg (fun h => hb h.1 h.2)]
  have e2 : fromV k ds2 b = fromT k ds2 b := by unfold fromV; rw [if_pos e1]
  rw [e1, e2]
  rw [hN] at hl
  have hNn : (sizeV ds2).1.toNat = N := by rw [hN]; omega
  subst hk7
  have eT : fromT 7 ds2 b = (7, ds2, [], (upL N).map (elI b), []) := by unfold fromT; rw [hNn]; rfl
  rw [eT]
  have ew : widthV 7 = 8 := rfl
  rw [ew] at hl WD
  have hbN : b.length = N * 8 := by omega
  have dl := size_len hn2
  have CP := hide (fun v (hv : Below w.heap.size w v) => copied_int p2 c2 ds2 v (h2.below hv).ls (by omega))
  have RD := hide (fun v (hv : Below w.heap.size w v) => read_int64 p3 c3 N b v (h3.below hv) hbN (by omega))
  have wd := hide h2.2.2.1
  have WX : Hid (∀ x ∈ (upL N).map (elI b), (Lit.int .i64 x).wf = true) := hide (fun x hx => by
    obtain ⟨a, ha, rfl⟩ := List.mem_map.1 hx
    unfold elI
    exact wrap64_wf _)
  have WD2 := WD
  have t1 : ((b.length : Int) != (N : Int) * 8) = false := bneF (by omega)
  unfold tenV tenCells
  simp only [List.length_map, List.length_nil, upL_length]
  clear e1 e2 eT hn h2 h3 hk hkn hn2 hN eN hl ew hNn hbN hb
  go_enter Try.func30, Try.ntmps30
  go_wp2_with fail
  refine (unhide SZ _ (al1 _ _)).mono ?_
  rintro e v ⟨rfl, hv⟩
  replace hv := hv.symm
  subst hv
  go_wp2_with fail
  refine (unhide WD _).mono ?_
  rintro e v ⟨rfl, hv⟩
  replace hv := hv.symm
  subst hv

  go_wp2_with fail
  refine (unhide CP _ (al1 _ _)).mono ?_
  rintro e w1 ⟨⟨q1, d1, rfl, L1, F1⟩, hb⟩
  have HL1 := hide L1
  have HF1 := hide F1
  have R1 := hide (Box.below (Box.new w #[.int .i64 0, .slice none 0 0, .slice none 0 0, .slice none 0 0, .slice none 0 0] 27) hb)
  have B1 := hide (bl_tr (al1 _ _) hb)
  have r1 := (unhide R1).cell
  have f1 := (unhide R1).frozen
  have z1 : w.heap.size < w1.heap.size := (unhide R1).lt
  clear hb L1 F1 CP SZ WD t1
  go_wp2_with fail
  refine (unhide WD2 _).mono ?_
  rintro e v ⟨rfl, hv⟩
  replace hv := hv.symm
  subst hv
  go_wp2_with fail
  refine (unhide RD _ (bl_tr (unhide B1) (al1 _ _))).mono ?_
  rintro e w2 ⟨⟨q2, d2, rfl, L2, F2⟩, hb⟩
  have HL2 := hide L2
  have HF2 : Hid (Fresh (w1.alloc (Obj.cells #[.int .i64 7, .slice q1 ds2.length d1, .slice none 0 0, .slice none 0 0, .slice none 0 0] 27)).heap.size w2 q2 ((upL N).map (elI b)).length) := hide (by rw [List.length_map, upL_length]; exact F2)
  have M2 := hide hb
  have B2 := hide (bl_tr (unhide B1) (bl_tr (al1 _ _) hb))
  have R2 := hide ((unhide R1).below (bl_tr (al1 _ _) hb))
  have X2 := hide (Box.below (Box.new w1 #[.int .i64 7, .slice q1 ds2.length d1, .slice none 0 0, .slice none 0 0, .slice none 0 0] 27) hb)
  clear r1 f1 L2 F2 hb RD
  have r2 := (unhide R2).cell
  have f2 := (unhide R2).frozen
  have x2 := (unhide X2).cell
  have g2 := (unhide X2).frozen
  have z2 : w1.heap.size < w2.heap.size := (unhide X2).lt
  go_wp2_with fail
  refine bodyPost_ret (v := .tuple #[.agg #[.int .i64 7, .slice q1 ds2.length d1, .slice none 0 0, .slice q2 N d2, .slice none 0 0], .int .i64 0]) (by simp [results, Try.results30, go_sem, ((unhide R2).other (k := w1.heap.size) (by omega) 3 (.slice q2 N d2)).set5 (.int .i64 7) (.slice q1 ds2.length d1) (.slice none 0 0) (.slice q2 N d2) (.slice none 0 0) |>.cell]) rfl ⟨⟨⟨q1, d1, none, 0, q2, d2, none, 0⟩, by simp, ?_⟩, bset5 ((unhide B2).setCell (by simp <;> omega) _) (by omega) _ _ _ _ _⟩
  exact (end_i rfl (unhide M2) (show w.heap.size < w.heap.size + 1 by omega) (by omega) (unhide HL1) ((unhide HF1).mono (by simp)) (unhide wd) (unhide HL2) (unhide HF2) (unhide WX) _ _ _ _ _ _ _).mono (by omega)
set_option maxRecDepth 100000 in
set_option maxHeartbeats 2000000 in
theorem tfrom_B (k : Int) (p2 p3 : Option Addr) (c2 c3 : Nat) (ds2 b : List Int) (w : World) (hk : (Lit.int .i64 k).wf = true) (h2 : Ints .i64 w p2 c2 ds2) (h3 : Ints .u8 w p3 c3 b) (hn : newE k ds2 = 0) (hl : (b.length : Int) = (sizeV ds2).1 * widthV k) (hb : k = 9 → ¬ ∃ i : Nat, i < b.length ∧ 1 < hv b i 1 1) (hk9 : k = 9) :
    Calls Try.prog 30 #[.int .i64 k, .slice p2 ds2.length c2, .slice p3 b.length c3] w fun e w' => (∃ C, e = .returned (.tuple #[tenV (fromV k ds2 b) C, .int .i64 (fromE k ds2 b)]) ∧ TenOwn w.heap.size w' (fromV k ds2 b) C) ∧ Below w.heap.size w w' := by
  have SZ := hide (fun v (hv : Below w.heap.size w v) => sized_any k p2 c2 ds2 v (h2.below hv))
  have bl := h3.len
  obtain ⟨hkn, hn2⟩ := from_parts hn
  obtain ⟨N, hN, hN4⟩ := size_nat ds2
  have eN : sizedN k ds2 = (N : Int) := by unfold sizedN; rw [if_neg (by rw [hkn]; decide), hN]
  rw [hn, eN] at SZ
  have WD := hide (fun w => twidth_any k w)
  have e1 : fromE k ds2 b = 0 := by unfold fromE; rw [if_neg (by simp [hn]), if_neg (by simp [hl]), if_neg (fun h => hb h.1 h.2)]
  have e2 : fromV k ds2 b = fromT k ds2 b := by unfold fromV; rw [if_pos e1]
  rw [e1, e2]
  rw [hN] at hl
  have hNn : (sizeV ds2).1.toNat = N := by rw [hN]; omega
  subst hk9
  have eT : fromT 9 ds2 b = (9, ds2, [], [], (upL N).map (elB b)) := by unfold fromT; rw [hNn]; rfl
  rw [eT]
  have ew : widthV 9 = 1 := rfl
  rw [ew] at hl WD
  have hbN : b.length = N * 1 := by omega
  have dl := size_len hn2
  have TR := hide (fun v (hv : Below w.heap.size w v) => truths_any p3 c3 b v (h3.below hv))
  rw [decide_eq_true (hb rfl)] at TR
  have CP := hide (fun v (hv : Below w.heap.size w v) => copied_int p2 c2 ds2 v (h2.below hv).ls (by omega))
  have RD := hide (fun v (hv : Below w.heap.size w v) => read_bool p3 c3 N b v (h3.below hv) hbN (by omega))
  have wd := hide h2.2.2.1
  have WD2 := WD
  have t1 : ((b.length : Int) != (N : Int)) = false := bneF (by omega)
  unfold tenV tenCells
  simp only [List.length_map, List.length_nil, upL_length]
  clear e1 e2 eT hn h2 h3 hk hkn hn2 hN eN hl ew hNn hbN hb
  go_enter Try.func30, Try.ntmps30
  go_wp2_with fail
  refine (unhide SZ _ (al1 _ _)).mono ?_
  rintro e v ⟨rfl, hv⟩
  replace hv := hv.symm
  subst hv
  go_wp2_with fail
  refine (unhide WD _).mono ?_
  rintro e v ⟨rfl, hv⟩
  replace hv := hv.symm
  subst hv
  go_wp2_with fail
  refine (unhide TR _ (al1 _ _)).mono ?_
  rintro e v ⟨rfl, hv⟩
  replace hv := hv.symm
  subst hv
  go_wp2_with fail
  refine (unhide CP _ (al1 _ _)).mono ?_
  rintro e w1 ⟨⟨q1, d1, rfl, L1, F1⟩, hb⟩
  have HL1 := hide L1
  have HF1 := hide F1
  have R1 := hide (Box.below (Box.new w #[.int .i64 0, .slice none 0 0, .slice none 0 0, .slice none 0 0, .slice none 0 0] 27) hb)
  have B1 := hide (bl_tr (al1 _ _) hb)
  have r1 := (unhide R1).cell
  have f1 := (unhide R1).frozen
  have z1 : w.heap.size < w1.heap.size := (unhide R1).lt
  clear hb L1 F1 CP SZ WD t1
  go_wp2_with fail
  refine (unhide WD2 _).mono ?_
  rintro e v ⟨rfl, hv⟩
  replace hv := hv.symm
  subst hv
  go_wp2_with fail
  refine (unhide RD _ (bl_tr (unhide B1) (al1 _ _))).mono ?_
  rintro e w2 ⟨⟨q2, d2, rfl, L2, F2⟩, hb⟩
  have HL2 := hide L2
  have HF2 : Hid (Fresh (w1.alloc (Obj.cells #[.int .i64 9, .slice q1 ds2.length d1, .slice none 0 0, .slice none 0 0, .slice none 0 0] 27)).heap.size w2 q2 ((upL N).map (elB b)).length) := hide (by rw [List.length_map, upL_length]; exact F2)
  have M2 := hide hb
  have B2 := hide (bl_tr (unhide B1) (bl_tr (al1 _ _) hb))
  have R2 := hide ((unhide R1).below (bl_tr (al1 _ _) hb))
  have X2 := hide (Box.below (Box.new w1 #[.int .i64 9, .slice q1 ds2.length d1, .slice none 0 0, .slice none 0 0, .slice none 0 0] 27) hb)
  clear r1 f1 L2 F2 hb RD
  have r2 := (unhide R2).cell
  have f2 := (unhide R2).frozen
  have x2 := (unhide X2).cell
  have g2 := (unhide X2).frozen
  have z2 : w1.heap.size < w2.heap.size := (unhide X2).lt
  go_wp2_with fail
  refine bodyPost_ret (v := .tuple #[.agg #[.int .i64 9, .slice q1 ds2.length d1, .slice none 0 0, .slice none 0 0, .slice q2 N d2], .int .i64 0]) (by simp [results, Try.results30, go_sem, ((unhide R2).other (k := w1.heap.size) (by omega) 4 (.slice q2 N d2)).set5 (.int .i64 9) (.slice q1 ds2.length d1) (.slice none 0 0) (.slice none 0 0) (.slice q2 N d2) |>.cell]) rfl ⟨⟨⟨q1, d1, none, 0, none, 0, q2, d2⟩, by simp, ?_⟩, bset5 ((unhide B2).setCell (by simp <;> omega) _) (by omega) _ _ _ _ _⟩
  exact (end_b rfl (unhide M2) (show w.heap.size < w.heap.size + 1 by omega) (by omega) (unhide HL1) ((unhide HF1).mono (by simp)) (unhide wd) (unhide HL2) (unhide HF2) _ _ _ _ _ _ _).mono (by omega)
theorem tfromb_any (k : Int) (p2 p3 : Option Addr) (c2 c3 : Nat) (ds2 b : List Int) (w : World) (hk : (Lit.int .i64 k).wf = true) (h2 : Ints .i64 w p2 c2 ds2) (h3 : Ints .u8 w p3 c3 b) :
    Calls Try.prog 30 #[.int .i64 k, .slice p2 ds2.length c2, .slice p3 b.length c3] w fun e w' => (∃ C, e = .returned (.tuple #[tenV (fromV k ds2 b) C, .int .i64 (fromE k ds2 b)]) ∧ TenOwn w.heap.size w' (fromV k ds2 b) C) ∧ Below w.heap.size w w' := by
  by_cases hn : newE k ds2 = 0
  · by_cases hl : (b.length : Int) = (sizeV ds2).1 * widthV k
    · by_cases hb : k = 9 ∧ ∃ i : Nat, i < b.length ∧ 1 < hv b i 1 1
      · exact tfrom_bad k p2 p3 c2 c3 ds2 b w hk h2 h3 hn hl hb.1 hb.2
      · have hb2 : k = 9 → ¬ ∃ i : Nat, i < b.length ∧ 1 < hv b i 1 1 := fun h9 he => hb ⟨h9, he⟩
        rcases known_cases (from_parts hn).1 with g | g | g
        · exact tfrom_F k p2 p3 c2 c3 ds2 b w hk h2 h3 hn hl hb2 g
        · exact tfrom_I k p2 p3 c2 c3 ds2 b w hk h2 h3 hn hl hb2 g
        · exact tfrom_B k p2 p3 c2 c3 ds2 b w hk h2 h3 hn hl hb2 g
    · exact tfrom_len k p2 p3 c2 c3 ds2 b w hk h2 h3 hn hl
  · exact tfrom_new k p2 p3 c2 c3 ds2 b w hk h2 h3 hn
end Go.Proofs.Ytbepkmehnghmcaa
