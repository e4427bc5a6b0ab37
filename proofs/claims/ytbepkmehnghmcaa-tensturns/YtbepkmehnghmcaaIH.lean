import Derived.Test.YtbepkmehnghmcaaIG

/-
  Layer 5: the statements' spoil: it writes over what is its caller's own, and over nothing else.
-/
namespace Go.Proofs.Ytbepkmehnghmcaa
open Go.RowKit
set_option linter.unusedVariables false

/-- A block that holds none of a tensor's lists. -/
def Off (T : Ten) (A : TA) (g : Nat) : Prop :=
  (∀ b o, A.pd = some ⟨b, o, none⟩ → 0 < T.2.1.length → g ≠ b) ∧ (∀ b o, A.pf = some ⟨b, o, none⟩ → 0 < T.2.2.1.length → g ≠ b) ∧ (∀ b o, A.pi = some ⟨b, o, none⟩ → 0 < T.2.2.2.1.length → g ≠ b) ∧ (∀ b o, A.pb = some ⟨b, o, none⟩ → 0 < T.2.2.2.2.length → g ≠ b)
/-- What is written is a tensor's lists alone. -/
def KeptOff (T : Ten) (A : TA) (w w' : World) : Prop := w.heap.size ≤ w'.heap.size ∧ ∀ g, g < w.heap.size → Off T A g → w'.heap[g]? = w.heap[g]?
theorem KeptOff.refl (T : Ten) (A : TA) (w : World) : KeptOff T A w w := ⟨Nat.le_refl _, fun _ _ _ => rfl⟩
theorem KeptOff.set {T : Ten} {A : TA} {w w' : World} (h : KeptOff T A w w') {b k : Nat} (v : Value) (hb : ∀ g, Off T A g → g ≠ b) : KeptOff T A w (w'.setCell ⟨b, k, none⟩ v) :=
  ⟨by simpa [World.setCell] using h.1, fun g h1 h2 => (Below.heap_setCell _ _ _ _ (hb g h2)).trans (h.2 g h1 h2)⟩
theorem KeptOff.below {T : Ten} {A : TA} {w w1 w' : World} (h : KeptOff T A w w1) (hb : Below w1.heap.size w1 w') : KeptOff T A w w' :=
  ⟨Nat.le_trans h.1 hb.size, fun g h1 h2 => (hb.block g (Nat.lt_of_lt_of_le h1 h.1)).trans (h.2 g h1 h2)⟩
theorem Ls.kept {α : Type} [Inhabited α] {f : α → Value} {w w' : World} {p : Option Addr} {c : Nat} {xs : List α} {T : Ten} {A : TA} (h : Ls f w p c xs) (k : KeptOff T A w w') (ho : ∀ b o, p = some ⟨b, o, none⟩ → 0 < xs.length → Off T A b) : Ls f w' p c xs := by
  obtain ⟨h1, h2, h4, h5⟩ := h
  refine ⟨h1, h2, fun hp => ?_, h5⟩
  obtain ⟨b, o, e, g1, g2⟩ := h4 hp
  exact ⟨b, o, e, Nat.lt_of_lt_of_le g1 k.1, fun i hi => (World.cell?_of_block (w := w) (k.2 b g1 (ho b o e hp))).trans (g2 i hi)⟩
theorem Fresh.kept {α : Type} [Inhabited α] {f : α → Value} {B : Nat} {w w' : World} {p : Option Addr} {n c : Nat} {xs : List α} {T : Ten} {A : TA} (h : Fresh B w p n) (hl : Ls f w p c xs) (hn : n = xs.length) (k : KeptOff T A w w') (ho : ∀ b o, p = some ⟨b, o, none⟩ → 0 < xs.length → Off T A b) : Fresh B w' p n := by
  intro b o e hp
  obtain ⟨h1, h2⟩ := h b o e hp
  obtain ⟨b', o', e', g1, _⟩ := hl.lies (by omega)
  have e2 := e
  rw [e] at e'
  simp only [Option.some.injEq, Addr.mk.injEq] at e'
  obtain ⟨rfl, rfl, _⟩ := e'
  exact ⟨h1, fun i hi => (World.frozen?_of_block (w := w) (k.2 b g1 (ho b o e2 (by omega)))).trans (h2 i hi)⟩
/-- What was built later lies off a tensor's lists. -/
theorem off_later {w : World} {T : Ten} {A : TA} (h : TenIn w T A) {b : Nat} (hb : w.heap.size ≤ b) : Off T A b := by
  refine ⟨fun b' o e hp => ?_, fun b' o e hp => ?_, fun b' o e hp => ?_, fun b' o e hp => ?_⟩
  · obtain ⟨b2, o2, e2, g, _⟩ := h.2.1.lies hp
    rw [e] at e2; simp only [Option.some.injEq, Addr.mk.injEq] at e2; omega
  · obtain ⟨b2, o2, e2, g, _⟩ := h.2.2.1.lies hp
    rw [e] at e2; simp only [Option.some.injEq, Addr.mk.injEq] at e2; omega
  · obtain ⟨b2, o2, e2, g, _⟩ := h.2.2.2.1.lies hp
    rw [e] at e2; simp only [Option.some.injEq, Addr.mk.injEq] at e2; omega
  · obtain ⟨b2, o2, e2, g, _⟩ := h.2.2.2.2.lies hp
    rw [e] at e2; simp only [Option.some.injEq, Addr.mk.injEq] at e2; omega
/-- What lies below a tensor of one's own lies off its lists. -/
theorem off_below {B : Nat} {w : World} {T : Ten} {A : TA} (h : TenOwn B w T A) {b : Nat} (hb : b < B) : Off T A b := by
  obtain ⟨_, h1, h2, h3, h4, _⟩ := h
  refine ⟨fun b' o e hp => ?_, fun b' o e hp => ?_, fun b' o e hp => ?_, fun b' o e hp => ?_⟩
  · have := (h1 b' o e hp).1; omega
  · have := (h2 b' o e hp).1; omega
  · have := (h3 b' o e hp).1; omega
  · have := (h4 b' o e hp).1; omega
theorem bdrew (w : World) : Below w.heap.size w w.drew := (Below.refl _ _).drew
theorem al1' (w : World) (o : Obj) {B : Nat} (h : B ≤ w.heap.size) : Below B w (w.alloc o) := (Below.refl _ _).alloc h _
set_option maxRecDepth 100000 in
set_option maxHeartbeats 8000000 in
theorem spoil_any (B : Nat) (T : Ten) (A : TA) (w : World) (h : TenOwn B w T A) (hB : B ≤ w.heap.size) :
    Calls Try.prog 15 #[tenV T A] w fun e w' => e = .returned (.tuple #[]) ∧ Below B w w' ∧ KeptOff T A w w' := by
  obtain ⟨ty, ds, fs, is, bs⟩ := T
  obtain ⟨pd, cd, pf, cf, pi, ci, pb, cb⟩ := A
  have H := hide h
  obtain ⟨⟨a0, a1, a2, a3, a4⟩, _⟩ := h
  simp only at a0 a1 a2 a3 a4
  unfold tenV tenCells
  simp only
  have nd := a1.len
  have nf := a2.len
  have ni := a3.len
  have nb := a4.len
  have A1 := hide a1
  have A2 := hide a2
  have A3 := hide a3
  have A4 := hide a4
  clear a0 a1 a2 a3 a4
  go_enter Try.func15, Try.ntmps15
  go_wp2_with fail
  go_loopw [2] (fun iv wr => ∃ n : Nat, ∃ ds0 : List Int, iv = .int .i64 n ∧ n ≤ ds.length ∧ Hid (ds0.length = ds.length) ∧ TenOwn B wr (ty, ds0, fs, is, bs) ⟨pd, cd, pf, cf, pi, ci, pb, cb⟩ ∧ Below B w wr ∧ Box wr w.heap.size #[.int .i64 ty, .slice pd ds.length cd, .slice pf fs.length cf, .slice pi is.length ci, .slice pb bs.length cb] 27 ∧ KeptOff (ty, ds, fs, is, bs) ⟨pd, cd, pf, cf, pi, ci, pb, cb⟩ w wr) (fun iv _ => ds.length - (intOf iv).toNat)
  case atStart => exact ⟨0, ds, rfl, by omega, hide rfl, (unhide H).below (al1 _ _), al1' _ _ hB, Box.new _ _ _, (KeptOff.refl _ _ _).below (al1 _ _)⟩
  case round =>
    obtain ⟨n0, ds0, rfl, hn0, HL0, o0, l0, x0, gg0⟩ := hrel
    have G0 := hide gg0
    clear gg0
    have O0 := hide o0
    have L0 := hide l0
    have X0 := hide x0
    have cx := x0.cell
    clear o0 l0 x0
    by_cases hlt : n0 < ds.length
    · obtain ⟨b, o, rfl, hb, _⟩ := (unhide A1).lies (by omega)
      have hi : (n0 : Int) < (ds.length : Int) := by omega
      have hl2 : n0 < ds0.length := by rw [unhide HL0]; exact hlt
      obtain ⟨b', o', e', hb', hc'⟩ := (unhide O0).1.2.1.lies (show 0 < ds0.length by omega)
      simp only [Option.some.injEq, Addr.mk.injEq] at e'
      obtain ⟨rfl, rfl, _⟩ := e'
      have k1 := hc' n0 hl2
      have z1 : wr.frozen? ⟨b, o + n0, none⟩ = false := ((unhide O0).2.1 b o rfl (show 0 < ds0.length by omega)).2 n0 hl2
      have hbn : b ≠ w.heap.size := by omega
      have hBb : B ≤ b := ((unhide O0).2.1 b o rfl (show 0 < ds0.length by omega)).1
      simp only at k1
      clear hc' hb'
      generalize ds0.getD n0 0 = x at k1
      have O2 := hide ((unhide O0).storeD n0 hl2 (bits .xor .i64 x 64) (wf_bits _ _ _ _))
      go_wp2_with fail
      go_region
      go_wp2_with fail
      go_roundw
      case rel =>
        exact ⟨n0 + 1, _, by go_num, by omega, hide (by rw [List.length_set]; exact unhide HL0), (unhide O2).below (bdrew _), ((unhide L0).setCell hBb _).drew, ((unhide X0).other (Ne.symm hbn) _ _).below (bdrew _), ((unhide G0).set _ (fun g hg => hg.1 b o rfl (show 0 < ds.length by omega))).below (bdrew _)⟩
      case measure => simp [intOf]; omega
    · have hi : ¬ (n0 : Int) < (ds.length : Int) := by omega
      go_wp2_with fail
      go_loopw [3] (fun iv wr => ∃ n : Nat, ∃ fs1 : List Int, iv = .int .i64 n ∧ n ≤ fs.length ∧ Hid (fs1.length = fs.length) ∧ TenOwn B wr (ty, ds0, fs1, is, bs) ⟨pd, cd, pf, cf, pi, ci, pb, cb⟩ ∧ Below B w wr ∧ Box wr w.heap.size #[.int .i64 ty, .slice pd ds.length cd, .slice pf fs.length cf, .slice pi is.length ci, .slice pb bs.length cb] 27 ∧ KeptOff (ty, ds, fs, is, bs) ⟨pd, cd, pf, cf, pi, ci, pb, cb⟩ w wr) (fun iv _ => fs.length - (intOf iv).toNat)
      case atStart => exact ⟨0, fs, rfl, by omega, hide rfl, unhide O0, unhide L0, unhide X0, unhide G0⟩
      case round =>
        obtain ⟨n1, fs1, rfl, hn1, HL1, o1, l1, x1, gg1⟩ := hrel
        have G1 := hide gg1
        clear gg1
        have O1 := hide o1
        have L1 := hide l1
        have X1 := hide x1
        have cx := x1.cell
        clear o1 l1 x1
        by_cases hlt : n1 < fs.length
        · obtain ⟨b, o, rfl, hb, _⟩ := (unhide A2).lies (by omega)
          have hi : (n1 : Int) < (fs.length : Int) := by omega
          have hl2 : n1 < fs1.length := by rw [unhide HL1]; exact hlt
          obtain ⟨b', o', e', hb', hc'⟩ := (unhide O1).1.2.2.1.lies (show 0 < fs1.length by omega)
          simp only [Option.some.injEq, Addr.mk.injEq] at e'
          obtain ⟨rfl, rfl, _⟩ := e'
          have k1 := hc' n1 hl2
          have z1 : wr.frozen? ⟨b, o + n1, none⟩ = false := ((unhide O1).2.2.1 b o rfl (show 0 < fs1.length by omega)).2 n1 hl2
          have hbn : b ≠ w.heap.size := by omega
          have hBb : B ≤ b := ((unhide O1).2.2.1 b o rfl (show 0 < fs1.length by omega)).1
          simp only at k1
          clear hc' hb'
          generalize fs1.getD n1 0 = x at k1
          have O2 := hide ((unhide O1).storeF n1 hl2 (bits .xor .u32 x 1) (wf_bits _ _ _ _))
          go_wp2_with fail
          go_region
          go_wp2_with fail
          go_roundw
          case rel =>
            exact ⟨n1 + 1, _, by go_num, by omega, hide (by rw [List.length_set]; exact unhide HL1), (unhide O2).below (bdrew _), ((unhide L1).setCell hBb _).drew, ((unhide X1).other (Ne.symm hbn) _ _).below (bdrew _), ((unhide G1).set _ (fun g hg => hg.2.1 b o rfl (show 0 < fs.length by omega))).below (bdrew _)⟩
          case measure => simp [intOf]; omega
        · have hi : ¬ (n1 : Int) < (fs.length : Int) := by omega
          go_wp2_with fail
          go_loopw [4] (fun iv wr => ∃ n : Nat, ∃ is2 : List Int, iv = .int .i64 n ∧ n ≤ is.length ∧ Hid (is2.length = is.length) ∧ TenOwn B wr (ty, ds0, fs1, is2, bs) ⟨pd, cd, pf, cf, pi, ci, pb, cb⟩ ∧ Below B w wr ∧ Box wr w.heap.size #[.int .i64 ty, .slice pd ds.length cd, .slice pf fs.length cf, .slice pi is.length ci, .slice pb bs.length cb] 27 ∧ KeptOff (ty, ds, fs, is, bs) ⟨pd, cd, pf, cf, pi, ci, pb, cb⟩ w wr) (fun iv _ => is.length - (intOf iv).toNat)
          case atStart => exact ⟨0, is, rfl, by omega, hide rfl, unhide O1, unhide L1, unhide X1, unhide G1⟩
          case round =>
            obtain ⟨n2, is2, rfl, hn2, HL2, o2, l2, x2, gg2⟩ := hrel
            have G2 := hide gg2
            clear gg2
            have O2 := hide o2
            have L2 := hide l2
            have X2 := hide x2
            have cx := x2.cell
            clear o2 l2 x2
            by_cases hlt : n2 < is.length
            · obtain ⟨b, o, rfl, hb, _⟩ := (unhide A3).lies (by omega)
              have hi : (n2 : Int) < (is.length : Int) := by omega
              have hl2 : n2 < is2.length := by rw [unhide HL2]; exact hlt
              obtain ⟨b', o', e', hb', hc'⟩ := (unhide O2).1.2.2.2.1.lies (show 0 < is2.length by omega)
              simp only [Option.some.injEq, Addr.mk.injEq] at e'
              obtain ⟨rfl, rfl, _⟩ := e'
              have k1 := hc' n2 hl2
              have z1 : wr.frozen? ⟨b, o + n2, none⟩ = false := ((unhide O2).2.2.2.1 b o rfl (show 0 < is2.length by omega)).2 n2 hl2
              have hbn : b ≠ w.heap.size := by omega
              have hBb : B ≤ b := ((unhide O2).2.2.2.1 b o rfl (show 0 < is2.length by omega)).1
              simp only at k1
              clear hc' hb'
              generalize is2.getD n2 0 = x at k1
              have O2 := hide ((unhide O2).storeI n2 hl2 (bits .xor .i64 x 1) (wf_bits _ _ _ _))
              go_wp2_with fail
              go_region
              go_wp2_with fail
              go_roundw
              case rel =>
                exact ⟨n2 + 1, _, by go_num, by omega, hide (by rw [List.length_set]; exact unhide HL2), (unhide O2).below (bdrew _), ((unhide L2).setCell hBb _).drew, ((unhide X2).other (Ne.symm hbn) _ _).below (bdrew _), ((unhide G2).set _ (fun g hg => hg.2.2.1 b o rfl (show 0 < is.length by omega))).below (bdrew _)⟩
              case measure => simp [intOf]; omega
            · have hi : ¬ (n2 : Int) < (is.length : Int) := by omega
              go_wp2_with fail
              go_loopw [5] (fun iv wr => ∃ n : Nat, ∃ bs3 : List Bool, iv = .int .i64 n ∧ n ≤ bs.length ∧ Hid (bs3.length = bs.length) ∧ TenOwn B wr (ty, ds0, fs1, is2, bs3) ⟨pd, cd, pf, cf, pi, ci, pb, cb⟩ ∧ Below B w wr ∧ Box wr w.heap.size #[.int .i64 ty, .slice pd ds.length cd, .slice pf fs.length cf, .slice pi is.length ci, .slice pb bs.length cb] 27 ∧ KeptOff (ty, ds, fs, is, bs) ⟨pd, cd, pf, cf, pi, ci, pb, cb⟩ w wr) (fun iv _ => bs.length - (intOf iv).toNat)
              case atStart => exact ⟨0, bs, rfl, by omega, hide rfl, unhide O2, unhide L2, unhide X2, unhide G2⟩
              case round =>
                obtain ⟨n3, bs3, rfl, hn3, HL3, o3, l3, x3, gg3⟩ := hrel
                have G3 := hide gg3
                clear gg3
                have O3 := hide o3
                have L3 := hide l3
                have X3 := hide x3
                have cx := x3.cell
                clear o3 l3 x3
                by_cases hlt : n3 < bs.length
                · obtain ⟨b, o, rfl, hb, _⟩ := (unhide A4).lies (by omega)
                  have hi : (n3 : Int) < (bs.length : Int) := by omega
                  have hl2 : n3 < bs3.length := by rw [unhide HL3]; exact hlt
                  obtain ⟨b', o', e', hb', hc'⟩ := (unhide O3).1.2.2.2.2.lies (show 0 < bs3.length by omega)
                  simp only [Option.some.injEq, Addr.mk.injEq] at e'
                  obtain ⟨rfl, rfl, _⟩ := e'
                  have k1 := hc' n3 hl2
                  have z1 : wr.frozen? ⟨b, o + n3, none⟩ = false := ((unhide O3).2.2.2.2.1 b o rfl (show 0 < bs3.length by omega)).2 n3 hl2
                  have e0 : ∀ (l : List Bool), l.getD n3 default = l.getD n3 false := fun _ => rfl
                  have hbn : b ≠ w.heap.size := by omega
                  have hBb : B ≤ b := ((unhide O3).2.2.2.2.1 b o rfl (show 0 < bs3.length by omega)).1
                  simp only [e0] at k1
                  clear hc' e0 hb'
                  generalize bs3.getD n3 false = x at k1
                  have O2 := hide ((unhide O3).storeB n3 hl2 (!x))
                  go_wp2_with fail
                  go_region
                  go_wp2_with fail
                  go_roundw
                  case rel =>
                    exact ⟨n3 + 1, _, by go_num, by omega, hide (by rw [List.length_set]; exact unhide HL3), (unhide O2).below (bdrew _), ((unhide L3).setCell hBb _).drew, ((unhide X3).other (Ne.symm hbn) _ _).below (bdrew _), ((unhide G3).set _ (fun g hg => hg.2.2.2 b o rfl (show 0 < bs.length by omega))).below (bdrew _)⟩
                  case measure => simp [intOf]; omega
                · have hi : ¬ (n3 : Int) < (bs.length : Int) := by omega
                  go_wp2_with fail
                  exact bodyPost_end (v := .tuple #[]) (by simp [results, Try.results15]) rfl ⟨rfl, unhide L3, unhide G3⟩
end Go.Proofs.Ytbepkmehnghmcaa
