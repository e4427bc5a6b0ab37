import Derived.Test.YtbepkmehnghmcaaIE

/-
  Layer 5: the document's New.
-/
namespace Go.Proofs.Ytbepkmehnghmcaa
open Go.RowKit
set_option linter.unusedVariables false

theorem size_nat (ds : List Int) : ∃ n : Nat, (sizeV ds).1 = (n : Int) ∧ n ≤ 4096 := by
  by_cases h : (sizeV ds).2 = 0
  · unfold sizeV at *
    by_cases c1 : ∃ d ∈ ds, d < 0
    · rw [if_pos c1] at h; cases h
    · rw [if_neg c1] at h ⊢
      by_cases c2 : 8 < ds.length ∨ ∃ d ∈ ds, 4096 < d
      · rw [if_pos c2] at h; cases h
      · rw [if_neg c2] at h ⊢
        by_cases c3 : (0 : Int) ∈ ds
        · rw [if_pos c3]; exact ⟨0, rfl, by omega⟩
        · rw [if_neg c3] at h ⊢
          by_cases c4 : 4096 < prodL ds
          · rw [if_pos c4] at h; cases h
          · rw [if_neg c4]
            have : 1 ≤ prodL ds := prodL_pos ds (fun d hd => by
              rcases Int.lt_or_le d 1 with g | g
              · rcases Int.lt_or_le d 0 with k | k
                · exact absurd ⟨d, hd, k⟩ c1
                · exact absurd (show (0 : Int) ∈ ds by have : d = 0 := by omega
                                                       subst this; exact hd) c3
              · exact g)
            exact ⟨(prodL ds).toNat, by show prodL ds = _; omega, by omega⟩
  · refine ⟨0, ?_, by omega⟩
    unfold sizeV at *
    (repeat' split) <;> simp_all
theorem size_len {ds : List Int} (h : (sizeV ds).2 = 0) : ds.length ≤ 8 := by
  unfold sizeV at h
  by_cases c1 : ∃ d ∈ ds, d < 0
  · rw [if_pos c1] at h; cases h
  · rw [if_neg c1] at h
    by_cases c2 : 8 < ds.length ∨ ∃ d ∈ ds, 4096 < d
    · rw [if_pos c2] at h; cases h
    · omega
theorem al1 (w : World) (o : Obj) : Below w.heap.size w (w.alloc o) := (Below.refl _ _).alloc (Nat.le_refl _) _

set_option maxRecDepth 100000 in
set_option maxHeartbeats 8000000 in
theorem rnew_any (k : Int) (p : Option Addr) (c : Nat) (ds : List Int) (w : World) (hk0 : (Lit.int .i64 k).wf = true) (h : Ints .i64 w p c ds) :
    Calls Try.prog 20 #[.int .i64 k, .slice p ds.length c] w fun e w' => (∃ C, e = .returned (.tuple #[tenV (newV k ds) C, .int .i64 (newE k ds)]) ∧ TenOwn w.heap.size w' (newV k ds) C) ∧ Below w.heap.size w w' := by
  obtain ⟨i1, hi1, y1, z1, b1⟩ := info_parts Try.infoInt
  obtain ⟨i2, hi2, y2, z2, b2⟩ := info_parts Try.infoU32
  obtain ⟨i3, hi3, y3, z3, b3⟩ := info_parts Try.infoI64
  obtain ⟨i4, hi4, y4, z4, b4⟩ := info_parts Try.infoB
  have KN := hide (fun w => rknown_any k w)
  have SZ := hide (fun w h => rsize_any p c ds w h)
  obtain ⟨n, hN, hn4⟩ := size_nat ds
  have hl8 := @size_len ds
  obtain ⟨E, hE⟩ : ∃ E, (sizeV ds).2 = E := ⟨_, rfl⟩
  rw [hN, hE] at SZ
  rw [hE] at hl8
  have A1 := hide h
  clear h
  cases hk : known k
  · rw [hk] at KN
    have e1 : newE k ds = 5 := by unfold newE; rw [if_pos hk]
    have e2 : newV k ds = noTen := by unfold newV; rw [e1]; rfl
    rw [e1, e2]
    clear e1 e2 hk hN hE hl8 SZ
    go_enter Try.func20, Try.ntmps20
    go_wp2_with fail
    refine (unhide KN _).mono ?_
    rintro e w1 ⟨rfl, rfl⟩
    go_wp2_with fail
    exact bodyPost_ret (v := .tuple #[tenV noTen noTA, .int .i64 5]) (by simp [results, Try.results20, go_sem, tenV, tenCells, noTen, noTA]) rfl ⟨⟨noTA, rfl, noTen_own _ _⟩, al1 _ _⟩
  · rw [hk] at KN
    by_cases he : E = 0
    · have e1 : newE k ds = 0 := by unfold newE; rw [if_neg (by rw [hk]; decide), hE, he]
      have e2 : newV k ds = newT k ds := by unfold newV; rw [if_pos e1]
      rw [e1, e2]
      have hl := hl8 he
      have hnn : (sizeV ds).1.toNat = n := by rw [hN]; omega
      have HNT : Hid (newT k ds = (k, ds, if k = 1 then List.replicate n 0 else [], if k = 7 then List.replicate n 0 else [], if k = 9 then List.replicate n false else [])) := hide (by unfold newT; rw [hnn])
      subst he
      clear e1 e2 hN hE hl8 hnn
      have hks := known_cases hk
      clear hk
      rcases hks with rfl | rfl | rfl
      · have HV : Hid (newT 1 ds = (1, ds, List.replicate n (0 : Int), [], [])) := hide ((unhide HNT).trans rfl)
        rw [unhide HV]
        clear HNT HV
        go_enter Try.func20, Try.ntmps20
        go_wp2_with fail
        refine (unhide KN _).mono ?_
        rintro e w1 ⟨rfl, rfl⟩
        go_wp2_with fail
        refine (unhide SZ _ ((unhide A1).below (al1 _ _))).mono ?_
        rintro e w1 ⟨rfl, rfl⟩
        clear KN SZ
        go_wp2_with (first
          | (at_builtin; (refine wpList_append_ls rfl _ _ 22 rfl _ 3 i1 (.int .i64 0) 8 Try.underlying22 hi1 y1 z1 b1 rfl (int_one .i64) _ [] rfl (OwnG.nil _ _ _ (Below.refl _ _)) p c ds rfl ((unhide A1).below (al2 _ _ _)).ls (by unfold maxLen; simp <;> omega) (by simp <;> omega) ?_; intro v1 w1 O1; obtain ⟨p1, c1, rfl, L1, F1⟩ := O1.form; have HL1 := hide L1; have HF1 := hide F1; have B1 := hide O1.2; have W1 := hide ((al2 _ _ _).trans (O1.2.mono (by simp; omega))); have XR1 := hide (Box.below (Box.alloc (Box.new w #[.int .i64 0, .slice none 0 0, .slice none 0 0, .slice none 0 0, .slice none 0 0] 27) _) O1.2); have XO1 := hide (Box.below (Box.new (w.alloc _) #[.int .i64 1, .slice none 0 0, .slice none 0 0, .slice none 0 0, .slice none 0 0] 27) O1.2); simp only [alloc_size] at XO1; have cr1 := (unhide XR1).cell; have fr1 := (unhide XR1).frozen; have co1 := (unhide XO1).cell; have fo1 := (unhide XO1).frozen; have hz1 : w.heap.size + 1 < w1.heap.size := (unhide XO1).lt; clear O1 L1 F1))
          | (at_make; (refine wpList_make_full _ rfl _ _ 23 rfl (w1.setCell ⟨w.heap.size + 1, 1, none⟩ (.slice p1 ds.length c1)).heap.size 52 i2 (.int .u32 0) 1 Try.underlying23 hi2 y2 z2 _ _ _ _ n rfl rfl (by omega) (by omega) (by rw [b2]; omega) (by unfold maxLen; omega) (Nat.le_refl _) ?_; intro w2 hown hgrow; have Q := OwnG.made (f := Value.int .u32) (z := (0 : Int)) (Below.refl _ _) rfl hown hgrow; obtain ⟨p2, c2, hv2, L2, F2⟩ := Q.form; rw [List.length_replicate] at hv2 F2; rw [hv2]; have HL2 := hide L2; have HF2 := hide F2; have B2 := hide Q.2; have W2 := hide (((unhide W1).setCell (p := ⟨w.heap.size + 1, 1, none⟩) (by simp) (.slice p1 ds.length c1)).trans (Q.2.mono (by simp [World.setCell]; omega))); have XR2 := hide (Box.below (Box.other (unhide XR1) (by omega) 1 (.slice p1 ds.length c1)) Q.2); have XO2 : Hid (Box w2 (w.heap.size + 1) #[.int .i64 1, .slice p1 ds.length c1, .slice none 0 0, .slice none 0 0, .slice none 0 0] 27) := hide (Box.below (Box.same (unhide XO1) 1 (.slice p1 ds.length c1)) Q.2); clear cr1 fr1 co1 fo1 hown hgrow Q L2 F2 hv2; have cr2 := (unhide XR2).cell; have fr2 := (unhide XR2).frozen; have co2 := (unhide XO2).cell; have fo2 := (unhide XO2).frozen; have hz2 : w.heap.size + 1 < w2.heap.size := (unhide XO2).lt)))
        have l1 := unhide HL1
        have l2 := unhide HL2
        have y1' : w.heap.size + 2 ≤ w1.heap.size := by have := (unhide B1).size; simp at this; omega
        have f1 : Fresh (w.heap.size + 2) w1 p1 ds.length := (unhide HF1).mono (by simp)
        have f2 : Fresh w1.heap.size w2 p2 n := (unhide HF2).mono (by simp [World.setCell])
        have m2 : ∀ u0 u1 u2 u3 u4 u5, Mid w.heap.size (w.heap.size + 2) w2 ((((((w2.setCell ⟨w.heap.size + 1, 2, none⟩ u0).setCell ⟨w.heap.size, 0, none⟩ u1).setCell ⟨w.heap.size, 1, none⟩ u2).setCell ⟨w.heap.size, 2, none⟩ u3).setCell ⟨w.heap.size, 3, none⟩ u4).setCell ⟨w.heap.size, 4, none⟩ u5) := fun _ _ _ _ _ _ =>
          ((((((Mid.refl _ _ _).setCell (by simp) (by simp) _).setCell (by simp) (by simp) _).setCell (by simp) (by simp) _).setCell (by simp) (by simp) _).setCell (by simp) (by simp) _).setCell (by simp) (by simp) _
        have m1 : Mid w.heap.size (w.heap.size + 2) w1 w2 := ((Mid.refl _ _ _).setCell (q := ⟨w.heap.size + 1, 1, none⟩) (by simp) (by simp) _).below (unhide B2)
        have k1 : ∀ b o, p1 = some ⟨b, o, none⟩ → 0 < ds.length → b < w.heap.size ∨ w.heap.size + 2 ≤ b := fun b o e hp => .inr (f1 b o e hp).1
        have k2 : ∀ b o, p2 = some ⟨b, o, none⟩ → 0 < (List.replicate n (0 : Int)).length → b < w.heap.size ∨ w.heap.size + 2 ≤ b := fun b o e hp => .inr (by have := (f2 b o e (by simpa using hp)).1; omega)
        have ap : Apart p1 p2 ds.length (List.replicate n (0 : Int)).length := by rw [List.length_replicate]; exact fresh_apart l1 rfl (Nat.le_refl _) f2
        have f2' : Fresh w1.heap.size w2 p2 (List.replicate n (0 : Int)).length := by rw [List.length_replicate]; exact f2
        refine bodyPost_ret (v := .tuple #[.agg #[.int .i64 1, .slice p1 ds.length c1, .slice p2 n c2, .slice none 0 0, .slice none 0 0], .int .i64 0]) (by simp [results, Try.results20, go_sem, cr2]) rfl ⟨⟨⟨p1, c1, p2, c2, none, 0, none, 0⟩, by simp [tenV, tenCells], ?_⟩, ?_⟩
        · exact ⟨⟨rfl, (l1.mid (m1.trans (m2 _ _ _ _ _ _)) k1).ints (unhide A1).2.2.1, (l2.mid (m2 _ _ _ _ _ _) k2).ints (fun x hx => by rw [List.mem_replicate] at hx; rw [hx.2]; decide), nilInts _ _, Ls.nil _⟩, (f1.mid l1 rfl (m1.trans (m2 _ _ _ _ _ _)) k1).mono (by omega), (f2'.mid l2 rfl (m2 _ _ _ _ _ _) k2).mono (by omega), Fresh.nil _ _, Fresh.nil _ _, ap, apart_none2, apart_none2, apart_none2, apart_none2, apart_none⟩
        · exact (((((((unhide W2).setCell (by simp) _).setCell (by simp) _).setCell (by simp) _).setCell (by simp) _).setCell (by simp) _).setCell (by simp) _)
      · have HV : Hid (newT 7 ds = (7, ds, [], List.replicate n (0 : Int), [])) := hide ((unhide HNT).trans rfl)
        rw [unhide HV]
        clear HNT HV
        go_enter Try.func20, Try.ntmps20
        go_wp2_with fail
        refine (unhide KN _).mono ?_
        rintro e w1 ⟨rfl, rfl⟩
        go_wp2_with fail
        refine (unhide SZ _ ((unhide A1).below (al1 _ _))).mono ?_
        rintro e w1 ⟨rfl, rfl⟩
        clear KN SZ
        go_wp2_with (first
          | (at_builtin; (refine wpList_append_ls rfl _ _ 22 rfl _ 3 i1 (.int .i64 0) 8 Try.underlying22 hi1 y1 z1 b1 rfl (int_one .i64) _ [] rfl (OwnG.nil _ _ _ (Below.refl _ _)) p c ds rfl ((unhide A1).below (al2 _ _ _)).ls (by unfold maxLen; simp <;> omega) (by simp <;> omega) ?_; intro v1 w1 O1; obtain ⟨p1, c1, rfl, L1, F1⟩ := O1.form; have HL1 := hide L1; have HF1 := hide F1; have B1 := hide O1.2; have W1 := hide ((al2 _ _ _).trans (O1.2.mono (by simp; omega))); have XR1 := hide (Box.below (Box.alloc (Box.new w #[.int .i64 0, .slice none 0 0, .slice none 0 0, .slice none 0 0, .slice none 0 0] 27) _) O1.2); have XO1 := hide (Box.below (Box.new (w.alloc _) #[.int .i64 7, .slice none 0 0, .slice none 0 0, .slice none 0 0, .slice none 0 0] 27) O1.2); simp only [alloc_size] at XO1; have cr1 := (unhide XR1).cell; have fr1 := (unhide XR1).frozen; have co1 := (unhide XO1).cell; have fo1 := (unhide XO1).frozen; have hz1 : w.heap.size + 1 < w1.heap.size := (unhide XO1).lt; clear O1 L1 F1))
          | (at_make; (refine wpList_make_full _ rfl _ _ 24 rfl (w1.setCell ⟨w.heap.size + 1, 1, none⟩ (.slice p1 ds.length c1)).heap.size 2 i3 (.int .i64 0) 1 Try.underlying24 hi3 y3 z3 _ _ _ _ n rfl rfl (by omega) (by omega) (by rw [b3]; omega) (by unfold maxLen; omega) (Nat.le_refl _) ?_; intro w2 hown hgrow; have Q := OwnG.made (f := Value.int .i64) (z := (0 : Int)) (Below.refl _ _) rfl hown hgrow; obtain ⟨p2, c2, hv2, L2, F2⟩ := Q.form; rw [List.length_replicate] at hv2 F2; rw [hv2]; have HL2 := hide L2; have HF2 := hide F2; have B2 := hide Q.2; have W2 := hide (((unhide W1).setCell (p := ⟨w.heap.size + 1, 1, none⟩) (by simp) (.slice p1 ds.length c1)).trans (Q.2.mono (by simp [World.setCell]; omega))); have XR2 := hide (Box.below (Box.other (unhide XR1) (by omega) 1 (.slice p1 ds.length c1)) Q.2); have XO2 : Hid (Box w2 (w.heap.size + 1) #[.int .i64 7, .slice p1 ds.length c1, .slice none 0 0, .slice none 0 0, .slice none 0 0] 27) := hide (Box.below (Box.same (unhide XO1) 1 (.slice p1 ds.length c1)) Q.2); clear cr1 fr1 co1 fo1 hown hgrow Q L2 F2 hv2; have cr2 := (unhide XR2).cell; have fr2 := (unhide XR2).frozen; have co2 := (unhide XO2).cell; have fo2 := (unhide XO2).frozen; have hz2 : w.heap.size + 1 < w2.heap.size := (unhide XO2).lt)))
        have l1 := unhide HL1
        have l2 := unhide HL2
        have y1' : w.heap.size + 2 ≤ w1.heap.size := by have := (unhide B1).size; simp at this; omega
        have f1 : Fresh (w.heap.size + 2) w1 p1 ds.length := (unhide HF1).mono (by simp)
        have f2 : Fresh w1.heap.size w2 p2 n := (unhide HF2).mono (by simp [World.setCell])
        have m2 : ∀ u0 u1 u2 u3 u4 u5, Mid w.heap.size (w.heap.size + 2) w2 ((((((w2.setCell ⟨w.heap.size + 1, 3, none⟩ u0).setCell ⟨w.heap.size, 0, none⟩ u1).setCell ⟨w.heap.size, 1, none⟩ u2).setCell ⟨w.heap.size, 2, none⟩ u3).setCell ⟨w.heap.size, 3, none⟩ u4).setCell ⟨w.heap.size, 4, none⟩ u5) := fun _ _ _ _ _ _ =>
          ((((((Mid.refl _ _ _).setCell (by simp) (by simp) _).setCell (by simp) (by simp) _).setCell (by simp) (by simp) _).setCell (by simp) (by simp) _).setCell (by simp) (by simp) _).setCell (by simp) (by simp) _
        have m1 : Mid w.heap.size (w.heap.size + 2) w1 w2 := ((Mid.refl _ _ _).setCell (q := ⟨w.heap.size + 1, 1, none⟩) (by simp) (by simp) _).below (unhide B2)
        have k1 : ∀ b o, p1 = some ⟨b, o, none⟩ → 0 < ds.length → b < w.heap.size ∨ w.heap.size + 2 ≤ b := fun b o e hp => .inr (f1 b o e hp).1
        have k2 : ∀ b o, p2 = some ⟨b, o, none⟩ → 0 < (List.replicate n (0 : Int)).length → b < w.heap.size ∨ w.heap.size + 2 ≤ b := fun b o e hp => .inr (by have := (f2 b o e (by simpa using hp)).1; omega)
        have ap : Apart p1 p2 ds.length (List.replicate n (0 : Int)).length := by rw [List.length_replicate]; exact fresh_apart l1 rfl (Nat.le_refl _) f2
        have f2' : Fresh w1.heap.size w2 p2 (List.replicate n (0 : Int)).length := by rw [List.length_replicate]; exact f2
        refine bodyPost_ret (v := .tuple #[.agg #[.int .i64 7, .slice p1 ds.length c1, .slice none 0 0, .slice p2 n c2, .slice none 0 0], .int .i64 0]) (by simp [results, Try.results20, go_sem, cr2]) rfl ⟨⟨⟨p1, c1, none, 0, p2, c2, none, 0⟩, by simp [tenV, tenCells], ?_⟩, ?_⟩
        · exact ⟨⟨rfl, (l1.mid (m1.trans (m2 _ _ _ _ _ _)) k1).ints (unhide A1).2.2.1, nilInts _ _, (l2.mid (m2 _ _ _ _ _ _) k2).ints (fun x hx => by rw [List.mem_replicate] at hx; rw [hx.2]; decide), Ls.nil _⟩, (f1.mid l1 rfl (m1.trans (m2 _ _ _ _ _ _)) k1).mono (by omega), Fresh.nil _ _, (f2'.mid l2 rfl (m2 _ _ _ _ _ _) k2).mono (by omega), Fresh.nil _ _, apart_none2, ap, apart_none2, apart_none, apart_none, apart_none2⟩
        · exact (((((((unhide W2).setCell (by simp) _).setCell (by simp) _).setCell (by simp) _).setCell (by simp) _).setCell (by simp) _).setCell (by simp) _)
      · have HV : Hid (newT 9 ds = (9, ds, [], [], List.replicate n false)) := hide ((unhide HNT).trans rfl)
        rw [unhide HV]
        clear HNT HV
        go_enter Try.func20, Try.ntmps20
        go_wp2_with fail
        refine (unhide KN _).mono ?_
        rintro e w1 ⟨rfl, rfl⟩
        go_wp2_with fail
        refine (unhide SZ _ ((unhide A1).below (al1 _ _))).mono ?_
        rintro e w1 ⟨rfl, rfl⟩
        clear KN SZ
        go_wp2_with (first
          | (at_builtin; (refine wpList_append_ls rfl _ _ 22 rfl _ 3 i1 (.int .i64 0) 8 Try.underlying22 hi1 y1 z1 b1 rfl (int_one .i64) _ [] rfl (OwnG.nil _ _ _ (Below.refl _ _)) p c ds rfl ((unhide A1).below (al2 _ _ _)).ls (by unfold maxLen; simp <;> omega) (by simp <;> omega) ?_; intro v1 w1 O1; obtain ⟨p1, c1, rfl, L1, F1⟩ := O1.form; have HL1 := hide L1; have HF1 := hide F1; have B1 := hide O1.2; have W1 := hide ((al2 _ _ _).trans (O1.2.mono (by simp; omega))); have XR1 := hide (Box.below (Box.alloc (Box.new w #[.int .i64 0, .slice none 0 0, .slice none 0 0, .slice none 0 0, .slice none 0 0] 27) _) O1.2); have XO1 := hide (Box.below (Box.new (w.alloc _) #[.int .i64 9, .slice none 0 0, .slice none 0 0, .slice none 0 0, .slice none 0 0] 27) O1.2); simp only [alloc_size] at XO1; have cr1 := (unhide XR1).cell; have fr1 := (unhide XR1).frozen; have co1 := (unhide XO1).cell; have fo1 := (unhide XO1).frozen; have hz1 : w.heap.size + 1 < w1.heap.size := (unhide XO1).lt; clear O1 L1 F1))
          | (at_make; (refine wpList_make_full _ rfl _ _ 25 rfl (w1.setCell ⟨w.heap.size + 1, 1, none⟩ (.slice p1 ds.length c1)).heap.size 4 i4 (.bool false) 1 Try.underlying25 hi4 y4 z4 _ _ _ _ n rfl rfl (by omega) (by omega) (by rw [b4]; omega) (by unfold maxLen; omega) (Nat.le_refl _) ?_; intro w2 hown hgrow; have Q := OwnG.made (f := Value.bool) (z := false) (Below.refl _ _) rfl hown hgrow; obtain ⟨p2, c2, hv2, L2, F2⟩ := Q.form; rw [List.length_replicate] at hv2 F2; rw [hv2]; have HL2 := hide L2; have HF2 := hide F2; have B2 := hide Q.2; have W2 := hide (((unhide W1).setCell (p := ⟨w.heap.size + 1, 1, none⟩) (by simp) (.slice p1 ds.length c1)).trans (Q.2.mono (by simp [World.setCell]; omega))); have XR2 := hide (Box.below (Box.other (unhide XR1) (by omega) 1 (.slice p1 ds.length c1)) Q.2); have XO2 : Hid (Box w2 (w.heap.size + 1) #[.int .i64 9, .slice p1 ds.length c1, .slice none 0 0, .slice none 0 0, .slice none 0 0] 27) := hide (Box.below (Box.same (unhide XO1) 1 (.slice p1 ds.length c1)) Q.2); clear cr1 fr1 co1 fo1 hown hgrow Q L2 F2 hv2; have cr2 := (unhide XR2).cell; have fr2 := (unhide XR2).frozen; have co2 := (unhide XO2).cell; have fo2 := (unhide XO2).frozen; have hz2 : w.heap.size + 1 < w2.heap.size := (unhide XO2).lt)))
        have l1 := unhide HL1
        have l2 := unhide HL2
        have y1' : w.heap.size + 2 ≤ w1.heap.size := by have := (unhide B1).size; simp at this; omega
        have f1 : Fresh (w.heap.size + 2) w1 p1 ds.length := (unhide HF1).mono (by simp)
        have f2 : Fresh w1.heap.size w2 p2 n := (unhide HF2).mono (by simp [World.setCell])
        have m2 : ∀ u0 u1 u2 u3 u4 u5, Mid w.heap.size (w.heap.size + 2) w2 ((((((w2.setCell ⟨w.heap.size + 1, 4, none⟩ u0).setCell ⟨w.heap.size, 0, none⟩ u1).setCell ⟨w.heap.size, 1, none⟩ u2).setCell ⟨w.heap.size, 2, none⟩ u3).setCell ⟨w.heap.size, 3, none⟩ u4).setCell ⟨w.heap.size, 4, none⟩ u5) := fun _ _ _ _ _ _ =>
          ((((((Mid.refl _ _ _).setCell (by simp) (by simp) _).setCell (by simp) (by simp) _).setCell (by simp) (by simp) _).setCell (by simp) (by simp) _).setCell (by simp) (by simp) _).setCell (by simp) (by simp) _
        have m1 : Mid w.heap.size (w.heap.size + 2) w1 w2 := ((Mid.refl _ _ _).setCell (q := ⟨w.heap.size + 1, 1, none⟩) (by simp) (by simp) _).below (unhide B2)
        have k1 : ∀ b o, p1 = some ⟨b, o, none⟩ → 0 < ds.length → b < w.heap.size ∨ w.heap.size + 2 ≤ b := fun b o e hp => .inr (f1 b o e hp).1
        have k2 : ∀ b o, p2 = some ⟨b, o, none⟩ → 0 < (List.replicate n false).length → b < w.heap.size ∨ w.heap.size + 2 ≤ b := fun b o e hp => .inr (by have := (f2 b o e (by simpa using hp)).1; omega)
        have ap : Apart p1 p2 ds.length (List.replicate n false).length := by rw [List.length_replicate]; exact fresh_apart l1 rfl (Nat.le_refl _) f2
        have f2' : Fresh w1.heap.size w2 p2 (List.replicate n false).length := by rw [List.length_replicate]; exact f2
        refine bodyPost_ret (v := .tuple #[.agg #[.int .i64 9, .slice p1 ds.length c1, .slice none 0 0, .slice none 0 0, .slice p2 n c2], .int .i64 0]) (by simp [results, Try.results20, go_sem, cr2]) rfl ⟨⟨⟨p1, c1, none, 0, none, 0, p2, c2⟩, by simp [tenV, tenCells], ?_⟩, ?_⟩
        · exact ⟨⟨rfl, (l1.mid (m1.trans (m2 _ _ _ _ _ _)) k1).ints (unhide A1).2.2.1, nilInts _ _, nilInts _ _, l2.mid (m2 _ _ _ _ _ _) k2⟩, (f1.mid l1 rfl (m1.trans (m2 _ _ _ _ _ _)) k1).mono (by omega), Fresh.nil _ _, Fresh.nil _ _, (f2'.mid l2 rfl (m2 _ _ _ _ _ _) k2).mono (by omega), apart_none2, apart_none2, ap, apart_none, apart_none, apart_none⟩
        · exact (((((((unhide W2).setCell (by simp) _).setCell (by simp) _).setCell (by simp) _).setCell (by simp) _).setCell (by simp) _).setCell (by simp) _)
    · have e1 : newE k ds = E := by unfold newE; rw [if_neg (by rw [hk]; decide), hE]
      have e2 : newV k ds = noTen := by unfold newV; rw [if_neg (by rw [e1]; exact he)]
      rw [e1, e2]
      have hen : (E != 0) = true := by simp [he]
      clear e1 e2 hk hN hE hl8 he
      go_enter Try.func20, Try.ntmps20
      go_wp2_with fail
      refine (unhide KN _).mono ?_
      rintro e w1 ⟨rfl, rfl⟩
      go_wp2_with fail
      refine (unhide SZ _ ((unhide A1).below (al1 _ _))).mono ?_
      rintro e w1 ⟨rfl, rfl⟩
      go_wp2_with fail
      exact bodyPost_ret (v := .tuple #[tenV noTen noTA, .int .i64 E]) (by simp [results, Try.results20, go_sem, tenV, tenCells, noTen, noTA]) rfl ⟨⟨noTA, rfl, noTen_own _ _⟩, al1 _ _⟩
end Go.Proofs.Ytbepkmehnghmcaa
