import Derived.Test.YtbepkmehnghmcaaJE

/-
  Layer 5: how a tensor of one list comes to stand; the code's New.
-/
namespace Go.Proofs.Ytbepkmehnghmcaa
open Go.RowKit
set_option linter.unusedVariables false

theorem Ls.far6 {α : Type} [Inhabited α] {f : α → Value} {w : World} {p : Option Addr} {c g r : Nat} {xs : List α} (h : Ls f w p c xs) (hg : ∀ b o, p = some ⟨b, o, none⟩ → 0 < xs.length → b ≠ g) (hr : ∀ b o, p = some ⟨b, o, none⟩ → 0 < xs.length → b ≠ r) (j : Nat) (u u0 u1 u2 u3 u4 : Value) :
    Ls f ((((((w.setCell ⟨g, j, none⟩ u).setCell ⟨r, 0, none⟩ u0).setCell ⟨r, 1, none⟩ u1).setCell ⟨r, 2, none⟩ u2).setCell ⟨r, 3, none⟩ u3).setCell ⟨r, 4, none⟩ u4) p c xs :=
  (((((h.far hg).far hr).far hr).far hr).far hr).far hr
theorem Fresh.set6 {B : Nat} {w : World} {p : Option Addr} {n g r : Nat} (h : Fresh B w p n) (j : Nat) (u u0 u1 u2 u3 u4 : Value) :
    Fresh B ((((((w.setCell ⟨g, j, none⟩ u).setCell ⟨r, 0, none⟩ u0).setCell ⟨r, 1, none⟩ u1).setCell ⟨r, 2, none⟩ u2).setCell ⟨r, 3, none⟩ u3).setCell ⟨r, 4, none⟩ u4) p n :=
  (((((h.set _ _).set _ _).set _ _).set _ _).set _ _).set _ _
theorem end_f {w1 w2 : World} {B r : Nat} {ob : Obj} {k : Int} {ds : List Int} {xs : List Int} {q1 q2 : Option Addr} {d1 d2 : Nat} (hk : (Lit.int .i64 k).wf = true) (m2 : Below (w1.alloc ob).heap.size (w1.alloc ob) w2) (hr : r < B) (hB : B ≤ w1.heap.size)
    (l1 : Ls (Value.int .i64) w1 q1 d1 ds) (f1 : Fresh B w1 q1 ds.length) (wd : ∀ x ∈ ds, (Lit.int .i64 x).wf = true) (l2 : Ls (Value.int .u32) w2 q2 d2 xs) (g2 : Fresh (w1.alloc ob).heap.size w2 q2 xs.length) (wx : ∀ x ∈ xs, (Lit.int .u32 x).wf = true) (j : Nat) (u u0 u1 u2 u3 u4 : Value) :
    TenOwn B ((((((w2.setCell ⟨w1.heap.size, j, none⟩ u).setCell ⟨r, 0, none⟩ u0).setCell ⟨r, 1, none⟩ u1).setCell ⟨r, 2, none⟩ u2).setCell ⟨r, 3, none⟩ u3).setCell ⟨r, 4, none⟩ u4) (k, ds, xs, [], []) ⟨q1, d1, q2, d2, none, 0, none, 0⟩ := by
  have m := bl_tr (al1 w1 ob) m2
  have hg1 : ∀ b o, q1 = some ⟨b, o, none⟩ → 0 < ds.length → b ≠ w1.heap.size := fun b o e hp => by
    obtain ⟨b', o', e', hb, _⟩ := l1.lies hp
    rw [e] at e'
    simp only [Option.some.injEq, Addr.mk.injEq] at e'
    omega
  have hr1 : ∀ b o, q1 = some ⟨b, o, none⟩ → 0 < ds.length → b ≠ r := fun b o e hp => by have := (f1 b o e hp).1; omega
  have hg2 : ∀ b o, q2 = some ⟨b, o, none⟩ → 0 < xs.length → b ≠ w1.heap.size := fun b o e hp => by have := (g2 b o e hp).1; rw [alloc_size] at this; omega
  have hr2 : ∀ b o, q2 = some ⟨b, o, none⟩ → 0 < xs.length → b ≠ r := fun b o e hp => by have := (g2 b o e hp).1; rw [alloc_size] at this; omega
  have f2 : Fresh B w2 q2 xs.length := g2.mono (by rw [alloc_size]; omega)
  have ap : Apart q1 q2 ds.length xs.length := fresh_apart l1 rfl (by rw [alloc_size]; omega) g2
  exact ⟨⟨hk, ((l1.below m).far6 hg1 hr1 _ _ _ _ _ _ _).ints wd, (l2.far6 hg2 hr2 _ _ _ _ _ _ _).ints wx, nilInts _ _, Ls.nil _⟩, (f1.below l1 rfl m).set6 _ _ _ _ _ _ _, f2.set6 _ _ _ _ _ _ _, Fresh.nil _ _, Fresh.nil _ _, ap, apart_none2, apart_none2, apart_none2, apart_none2, apart_none⟩
theorem end_i {w1 w2 : World} {B r : Nat} {ob : Obj} {k : Int} {ds : List Int} {xs : List Int} {q1 q2 : Option Addr} {d1 d2 : Nat} (hk : (Lit.int .i64 k).wf = true) (m2 : Below (w1.alloc ob).heap.size (w1.alloc ob) w2) (hr : r < B) (hB : B ≤ w1.heap.size)
    (l1 : Ls (Value.int .i64) w1 q1 d1 ds) (f1 : Fresh B w1 q1 ds.length) (wd : ∀ x ∈ ds, (Lit.int .i64 x).wf = true) (l2 : Ls (Value.int .i64) w2 q2 d2 xs) (g2 : Fresh (w1.alloc ob).heap.size w2 q2 xs.length) (wx : ∀ x ∈ xs, (Lit.int .i64 x).wf = true) (j : Nat) (u u0 u1 u2 u3 u4 : Value) :
    TenOwn B ((((((w2.setCell ⟨w1.heap.size, j, none⟩ u).setCell ⟨r, 0, none⟩ u0).setCell ⟨r, 1, none⟩ u1).setCell ⟨r, 2, none⟩ u2).setCell ⟨r, 3, none⟩ u3).setCell ⟨r, 4, none⟩ u4) (k, ds, [], xs, []) ⟨q1, d1, none, 0, q2, d2, none, 0⟩ := by
  have m := bl_tr (al1 w1 ob) m2
  have hg1 : ∀ b o, q1 = some ⟨b, o, none⟩ → 0 < ds.length → b ≠ w1.heap.size := fun b o e hp => by
    obtain ⟨b', o', e', hb, _⟩ := l1.lies hp
    rw [e] at e'
    simp only [Option.some.injEq, Addr.mk.injEq] at e'
    omega
  have hr1 : ∀ b o, q1 = some ⟨b, o, none⟩ → 0 < ds.length → b ≠ r := fun b o e hp => by have := (f1 b o e hp).1; omega
  have hg2 : ∀ b o, q2 = some ⟨b, o, none⟩ → 0 < xs.length → b ≠ w1.heap.size := fun b o e hp => by have := (g2 b o e hp).1; rw [alloc_size] at this; omega
  have hr2 : ∀ b o, q2 = some ⟨b, o, none⟩ → 0 < xs.length → b ≠ r := fun b o e hp => by have := (g2 b o e hp).1; rw [alloc_size] at this; omega
  have f2 : Fresh B w2 q2 xs.length := g2.mono (by rw [alloc_size]; omega)
  have ap : Apart q1 q2 ds.length xs.length := fresh_apart l1 rfl (by rw [alloc_size]; omega) g2
  exact ⟨⟨hk, ((l1.below m).far6 hg1 hr1 _ _ _ _ _ _ _).ints wd, nilInts _ _, (l2.far6 hg2 hr2 _ _ _ _ _ _ _).ints wx, Ls.nil _⟩, (f1.below l1 rfl m).set6 _ _ _ _ _ _ _, Fresh.nil _ _, f2.set6 _ _ _ _ _ _ _, Fresh.nil _ _, apart_none2, ap, apart_none2, apart_none, apart_none, apart_none2⟩
theorem end_b {w1 w2 : World} {B r : Nat} {ob : Obj} {k : Int} {ds : List Int} {xs : List Bool} {q1 q2 : Option Addr} {d1 d2 : Nat} (hk : (Lit.int .i64 k).wf = true) (m2 : Below (w1.alloc ob).heap.size (w1.alloc ob) w2) (hr : r < B) (hB : B ≤ w1.heap.size)
    (l1 : Ls (Value.int .i64) w1 q1 d1 ds) (f1 : Fresh B w1 q1 ds.length) (wd : ∀ x ∈ ds, (Lit.int .i64 x).wf = true) (l2 : Ls (Value.bool) w2 q2 d2 xs) (g2 : Fresh (w1.alloc ob).heap.size w2 q2 xs.length) (j : Nat) (u u0 u1 u2 u3 u4 : Value) :
    TenOwn B ((((((w2.setCell ⟨w1.heap.size, j, none⟩ u).setCell ⟨r, 0, none⟩ u0).setCell ⟨r, 1, none⟩ u1).setCell ⟨r, 2, none⟩ u2).setCell ⟨r, 3, none⟩ u3).setCell ⟨r, 4, none⟩ u4) (k, ds, [], [], xs) ⟨q1, d1, none, 0, none, 0, q2, d2⟩ := by
  have m := bl_tr (al1 w1 ob) m2
  have hg1 : ∀ b o, q1 = some ⟨b, o, none⟩ → 0 < ds.length → b ≠ w1.heap.size := fun b o e hp => by
    obtain ⟨b', o', e', hb, _⟩ := l1.lies hp
    rw [e] at e'
    simp only [Option.some.injEq, Addr.mk.injEq] at e'
    omega
  have hr1 : ∀ b o, q1 = some ⟨b, o, none⟩ → 0 < ds.length → b ≠ r := fun b o e hp => by have := (f1 b o e hp).1; omega
  have hg2 : ∀ b o, q2 = some ⟨b, o, none⟩ → 0 < xs.length → b ≠ w1.heap.size := fun b o e hp => by have := (g2 b o e hp).1; rw [alloc_size] at this; omega
  have hr2 : ∀ b o, q2 = some ⟨b, o, none⟩ → 0 < xs.length → b ≠ r := fun b o e hp => by have := (g2 b o e hp).1; rw [alloc_size] at this; omega
  have f2 : Fresh B w2 q2 xs.length := g2.mono (by rw [alloc_size]; omega)
  have ap : Apart q1 q2 ds.length xs.length := fresh_apart l1 rfl (by rw [alloc_size]; omega) g2
  exact ⟨⟨hk, ((l1.below m).far6 hg1 hr1 _ _ _ _ _ _ _).ints wd, nilInts _ _, nilInts _ _, (l2.far6 hg2 hr2 _ _ _ _ _ _ _)⟩, (f1.below l1 rfl m).set6 _ _ _ _ _ _ _, Fresh.nil _ _, Fresh.nil _ _, f2.set6 _ _ _ _ _ _ _, apart_none2, apart_none2, ap, apart_none, apart_none, apart_none⟩
set_option maxRecDepth 100000 in
set_option maxHeartbeats 4000000 in
theorem tnew_any (k : Int) (p : Option Addr) (c : Nat) (ds : List Int) (w : World) (hk0 : (Lit.int .i64 k).wf = true) (h : Ints .i64 w p c ds) :
    Calls Try.prog 19 #[.int .i64 k, .slice p ds.length c] w fun e w' => (∃ C, e = .returned (.tuple #[tenV (newV k ds) C, .int .i64 (newE k ds)]) ∧ TenOwn w.heap.size w' (newV k ds) C) ∧ Below w.heap.size w w' := by
  obtain ⟨i2, hi2, y2, z2, b2⟩ := info_parts Try.infoU32
  obtain ⟨i3, hi3, y3, z3, b3⟩ := info_parts Try.infoI64
  obtain ⟨i4, hi4, y4, z4, b4⟩ := info_parts Try.infoB
  have SZ := hide (fun v (hv : Below w.heap.size w v) => sized_any k p c ds v (h.below hv))
  have wd := hide h.2.2.1
  by_cases he : newE k ds = 0
  · have hk : known k = true := by
      cases hh : known k
      · unfold newE at he; rw [if_pos hh] at he; cases he
      · rfl
    have he2 : (sizeV ds).2 = 0 := by unfold newE at he; rw [if_neg (by rw [hk]; decide)] at he; exact he
    have hl := size_len he2
    obtain ⟨n, hN, hn4⟩ := size_nat ds
    have eN : sizedN k ds = (n : Int) := by unfold sizedN; rw [if_neg (by rw [hk]; decide), hN]
    have CP := hide (fun v (hv : Below w.heap.size w v) => copied_int p c ds v (h.below hv).ls (by omega))
    have e2 : newV k ds = newT k ds := by unfold newV; rw [if_pos he]
    have hnn : (sizeV ds).1.toNat = n := by rw [hN]; omega
    have HNT : Hid (newT k ds = (k, ds, if k = 1 then List.replicate n 0 else [], if k = 7 then List.replicate n 0 else [], if k = 9 then List.replicate n false else [])) := hide (by unfold newT; rw [hnn])
    rw [eN, he] at SZ
    rw [he, e2]
    have hks := known_cases hk
    clear he he2 hN eN e2 hnn hk h hk0
    rcases hks with rfl | rfl | rfl
    · have HV : Hid (newT 1 ds = (1, ds, List.replicate n (0 : Int), [], [])) := hide ((unhide HNT).trans rfl)
      rw [unhide HV]
      clear HNT HV
      go_enter Try.func19, Try.ntmps19
      go_wp2_with fail
      refine (unhide SZ _ (al1 _ _)).mono ?_
      rintro e w1 ⟨rfl, rfl⟩
      go_wp2_with fail
      refine (unhide CP _ (al1 _ _)).mono ?_
      rintro e w1 ⟨⟨q1, d1, rfl, L1, F1⟩, hb⟩
      have HL1 := hide L1
      have HF1 := hide F1
      have R1 := hide (Box.below (Box.new w #[.int .i64 0, .slice none 0 0, .slice none 0 0, .slice none 0 0, .slice none 0 0] 27) hb)
      have B1 := hide (bl_tr (al1 _ _) hb)
      have r1 := (unhide R1).cell
      have f1 := (unhide R1).frozen
      have z1 : w.heap.size < w1.heap.size := (unhide R1).lt
      clear hb L1 F1 CP SZ
      go_wp2_with (at_make; (refine wpList_make_full _ rfl _ _ 23 rfl (w1.alloc (Obj.cells #[.int .i64 1, .slice q1 ds.length d1, .slice none 0 0, .slice none 0 0, .slice none 0 0] 27)).heap.size 52 i2 (.int .u32 0) 1 Try.underlying23 hi2 y2 z2 _ _ _ _ n rfl rfl (by omega) (by omega) (by rw [b2]; omega) (by unfold maxLen; omega) (Nat.le_refl _) ?_; intro w2 hown hgrow; have Q := OwnG.made (f := Value.int .u32) (z := (0 : Int)) (Below.refl _ _) rfl hown hgrow; obtain ⟨q2, d2, hv2, L2, F2⟩ := Q.form; rw [List.length_replicate] at hv2; rw [hv2]; have HL2 := hide L2; have HF2 := hide F2; have M2 := hide Q.2; have B2 := hide (bl_tr (unhide B1) (bl_tr (al1 _ _) Q.2)); have R2 := hide ((unhide R1).below (bl_tr (al1 _ _) Q.2)); have X2 := hide (Box.below (Box.new w1 #[.int .i64 1, .slice q1 ds.length d1, .slice none 0 0, .slice none 0 0, .slice none 0 0] 27) Q.2); clear r1 f1 hown hgrow Q L2 F2 hv2; have r2 := (unhide R2).cell; have f2 := (unhide R2).frozen; have x2 := (unhide X2).cell; have g2 := (unhide X2).frozen; have z2' : w1.heap.size < w2.heap.size := (unhide X2).lt))
      refine bodyPost_ret (v := .tuple #[.agg #[.int .i64 1, .slice q1 ds.length d1, .slice q2 n d2, .slice none 0 0, .slice none 0 0], .int .i64 0]) (by simp [results, Try.results19, go_sem, ((unhide R2).other (k := w1.heap.size) (by omega) 2 (.slice q2 n d2)).set5 (.int .i64 1) (.slice q1 ds.length d1) (.slice q2 n d2) (.slice none 0 0) (.slice none 0 0) |>.cell]) rfl ⟨⟨⟨q1, d1, q2, d2, none, 0, none, 0⟩, by simp [tenV, tenCells], ?_⟩, bset5 ((unhide B2).setCell (by simp <;> omega) _) (by omega) _ _ _ _ _⟩
      exact (end_f rfl (unhide M2) (show w.heap.size < w.heap.size + 1 by omega) (by omega) (unhide HL1) ((unhide HF1).mono (by simp)) (unhide wd) (unhide HL2) (unhide HF2) (fun x hx => by rw [List.mem_replicate] at hx; rw [hx.2]; decide) _ _ _ _ _ _ _).mono (by omega)
    · have HV : Hid (newT 7 ds = (7, ds, [], List.replicate n (0 : Int), [])) := hide ((unhide HNT).trans rfl)
      rw [unhide HV]
      clear HNT HV
      go_enter Try.func19, Try.ntmps19
      go_wp2_with fail
      refine (unhide SZ _ (al1 _ _)).mono ?_
      rintro e w1 ⟨rfl, rfl⟩
      go_wp2_with fail
      refine (unhide CP _ (al1 _ _)).mono ?_
      rintro e w1 ⟨⟨q1, d1, rfl, L1, F1⟩, hb⟩
      have HL1 := hide L1
      have HF1 := hide F1
      have R1 := hide (Box.below (Box.new w #[.int .i64 0, .slice none 0 0, .slice none 0 0, .slice none 0 0, .slice none 0 0] 27) hb)
      have B1 := hide (bl_tr (al1 _ _) hb)
      have r1 := (unhide R1).cell
      have f1 := (unhide R1).frozen
      have z1 : w.heap.size < w1.heap.size := (unhide R1).lt
      clear hb L1 F1 CP SZ
      go_wp2_with (at_make; (refine wpList_make_full _ rfl _ _ 24 rfl (w1.alloc (Obj.cells #[.int .i64 7, .slice q1 ds.length d1, .slice none 0 0, .slice none 0 0, .slice none 0 0] 27)).heap.size 2 i3 (.int .i64 0) 1 Try.underlying24 hi3 y3 z3 _ _ _ _ n rfl rfl (by omega) (by omega) (by rw [b3]; omega) (by unfold maxLen; omega) (Nat.le_refl _) ?_; intro w2 hown hgrow; have Q := OwnG.made (f := Value.int .i64) (z := (0 : Int)) (Below.refl _ _) rfl hown hgrow; obtain ⟨q2, d2, hv2, L2, F2⟩ := Q.form; rw [List.length_replicate] at hv2; rw [hv2]; have HL2 := hide L2; have HF2 := hide F2; have M2 := hide Q.2; have B2 := hide (bl_tr (unhide B1) (bl_tr (al1 _ _) Q.2)); have R2 := hide ((unhide R1).below (bl_tr (al1 _ _) Q.2)); have X2 := hide (Box.below (Box.new w1 #[.int .i64 7, .slice q1 ds.length d1, .slice none 0 0, .slice none 0 0, .slice none 0 0] 27) Q.2); clear r1 f1 hown hgrow Q L2 F2 hv2; have r2 := (unhide R2).cell; have f2 := (unhide R2).frozen; have x2 := (unhide X2).cell; have g2 := (unhide X2).frozen; have z2' : w1.heap.size < w2.heap.size := (unhide X2).lt))
      refine bodyPost_ret (v := .tuple #[.agg #[.int .i64 7, .slice q1 ds.length d1, .slice none 0 0, .slice q2 n d2, .slice none 0 0], .int .i64 0]) (by simp [results, Try.results19, go_sem, ((unhide R2).other (k := w1.heap.size) (by omega) 3 (.slice q2 n d2)).set5 (.int .i64 7) (.slice q1 ds.length d1) (.slice none 0 0) (.slice q2 n d2) (.slice none 0 0) |>.cell]) rfl ⟨⟨⟨q1, d1, none, 0, q2, d2, none, 0⟩, by simp [tenV, tenCells], ?_⟩, bset5 ((unhide B2).setCell (by simp <;> omega) _) (by omega) _ _ _ _ _⟩
      exact (end_i rfl (unhide M2) (show w.heap.size < w.heap.size + 1 by omega) (by omega) (unhide HL1) ((unhide HF1).mono (by simp)) (unhide wd) (unhide HL2) (unhide HF2) (fun x hx => by rw [List.mem_replicate] at hx; rw [hx.2]; decide) _ _ _ _ _ _ _).mono (by omega)
    · have HV : Hid (newT 9 ds = (9, ds, [], [], List.replicate n false)) := hide ((unhide HNT).trans rfl)
      rw [unhide HV]
      clear HNT HV
      go_enter Try.func19, Try.ntmps19
      go_wp2_with fail
      refine (unhide SZ _ (al1 _ _)).mono ?_
      rintro e w1 ⟨rfl, rfl⟩
      go_wp2_with fail
      refine (unhide CP _ (al1 _ _)).mono ?_
      rintro e w1 ⟨⟨q1, d1, rfl, L1, F1⟩, hb⟩
      have HL1 := hide L1
      have HF1 := hide F1
      have R1 := hide (Box.below (Box.new w #[.int .i64 0, .slice none 0 0, .slice none 0 0, .slice none 0 0, .slice none 0 0] 27) hb)
      have B1 := hide (bl_tr (al1 _ _) hb)
      have r1 := (unhide R1).cell
      have f1 := (unhide R1).frozen
      have z1 : w.heap.size < w1.heap.size := (unhide R1).lt
      clear hb L1 F1 CP SZ
      go_wp2_with (at_make; (refine wpList_make_full _ rfl _ _ 25 rfl (w1.alloc (Obj.cells #[.int .i64 9, .slice q1 ds.length d1, .slice none 0 0, .slice none 0 0, .slice none 0 0] 27)).heap.size 4 i4 (.bool false) 1 Try.underlying25 hi4 y4 z4 _ _ _ _ n rfl rfl (by omega) (by omega) (by rw [b4]; omega) (by unfold maxLen; omega) (Nat.le_refl _) ?_; intro w2 hown hgrow; have Q := OwnG.made (f := Value.bool) (z := false) (Below.refl _ _) rfl hown hgrow; obtain ⟨q2, d2, hv2, L2, F2⟩ := Q.form; rw [List.length_replicate] at hv2; rw [hv2]; have HL2 := hide L2; have HF2 := hide F2; have M2 := hide Q.2; have B2 := hide (bl_tr (unhide B1) (bl_tr (al1 _ _) Q.2)); have R2 := hide ((unhide R1).below (bl_tr (al1 _ _) Q.2)); have X2 := hide (Box.below (Box.new w1 #[.int .i64 9, .slice q1 ds.length d1, .slice none 0 0, .slice none 0 0, .slice none 0 0] 27) Q.2); clear r1 f1 hown hgrow Q L2 F2 hv2; have r2 := (unhide R2).cell; have f2 := (unhide R2).frozen; have x2 := (unhide X2).cell; have g2 := (unhide X2).frozen; have z2' : w1.heap.size < w2.heap.size := (unhide X2).lt))
      refine bodyPost_ret (v := .tuple #[.agg #[.int .i64 9, .slice q1 ds.length d1, .slice none 0 0, .slice none 0 0, .slice q2 n d2], .int .i64 0]) (by simp [results, Try.results19, go_sem, ((unhide R2).other (k := w1.heap.size) (by omega) 4 (.slice q2 n d2)).set5 (.int .i64 9) (.slice q1 ds.length d1) (.slice none 0 0) (.slice none 0 0) (.slice q2 n d2) |>.cell]) rfl ⟨⟨⟨q1, d1, none, 0, none, 0, q2, d2⟩, by simp [tenV, tenCells], ?_⟩, bset5 ((unhide B2).setCell (by simp <;> omega) _) (by omega) _ _ _ _ _⟩
      exact (end_b rfl (unhide M2) (show w.heap.size < w.heap.size + 1 by omega) (by omega) (unhide HL1) ((unhide HF1).mono (by simp)) (unhide wd) (unhide HL2) (unhide HF2) _ _ _ _ _ _ _).mono (by omega)
  · have e2 : newV k ds = noTen := by unfold newV; rw [if_neg he]
    rw [e2]
    generalize newE k ds = E at he SZ ⊢
    generalize sizedN k ds = N at SZ
    have t1 : (E != 0) = true := bneT he
    clear e2 he h
    go_enter Try.func19, Try.ntmps19
    go_wp2_with fail
    refine (unhide SZ _ (al1 _ _)).mono ?_
    rintro e w1 ⟨rfl, rfl⟩
    go_wp2_with fail
    exact bodyPost_ret (v := .tuple #[tenV noTen noTA, .int .i64 E]) (by simp [results, Try.results19, go_sem, tenV, tenCells, noTen, noTA]) rfl ⟨⟨noTA, rfl, noTen_own _ _⟩, al1 _ _⟩
end Go.Proofs.Ytbepkmehnghmcaa
