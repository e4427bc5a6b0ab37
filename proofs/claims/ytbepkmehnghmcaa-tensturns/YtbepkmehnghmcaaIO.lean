import Derived.Test.YtbepkmehnghmcaaIN

/-
  Layer 5: the document's FromBytes.
-/
namespace Go.Proofs.Ytbepkmehnghmcaa
open Go.RowKit
set_option linter.unusedVariables false

/-- What the upper m bytes of the wd that begin at off come to. -/
def hv (b : List Int) (off wd : Nat) : Nat → Int
  | 0 => 0
  | m + 1 => hv b off wd m * 256 + b.getD (off + (wd - 1 - m)) 0
theorem hv_range {b : List Int} (hb : ∀ x ∈ b, (Lit.int .u8 x).wf = true) (off wd : Nat) (hw : wd ≤ 8) (ho : off + wd ≤ b.length) : ∀ m, m ≤ wd → 0 ≤ hv b off wd m ∧ hv b off wd m < 256 ^ m
  | 0, _ => by simp [hv]
  | m + 1, hm => by
    obtain ⟨h1, h2⟩ := hv_range hb off wd hw ho m (by omega)
    have hx := hb _ (getD_mem5 (show off + (wd - 1 - m) < b.length by omega))
    have hr : 0 ≤ b.getD (off + (wd - 1 - m)) 0 ∧ b.getD (off + (wd - 1 - m)) 0 < 256 := by
      simp [Lit.wf, IntKind.min, IntKind.max, IntKind.signed, IntKind.bits] at hx
      constructor <;> simp <;> omega
    show 0 ≤ hv b off wd m * 256 + _ ∧ hv b off wd m * 256 + _ < _
    rw [Int.pow_succ]
    generalize hv b off wd m = A at *
    generalize (256 : Int) ^ m = P at *
    omega
theorem pow_le (m : Nat) (h : m ≤ 8) : (256 : Int) ^ m ≤ 18446744073709551616 := by
  match m, h with
  | 0, _ => decide
  | 1, _ => decide
  | 2, _ => decide
  | 3, _ => decide
  | 4, _ => decide
  | 5, _ => decide
  | 6, _ => decide
  | 7, _ => decide
  | 8, _ => decide
  | m + 9, h => omega
theorem WalkArith5 {y : Int} (h0 : 0 ≤ y) (h1 : y < 4294967296) : (Lit.int .u32 y).wf = true := by
  simp [Lit.wf, IntKind.min, IntKind.max, IntKind.signed, IntKind.bits]; omega
def upL (n : Nat) : List Int := (List.range n).map fun i : Nat => (i : Int)
theorem upL_length (n : Nat) : (upL n).length = n := by simp [upL]
theorem upL_getD (n i : Nat) (h : i < n) : (upL n).getD i 0 = (i : Int) := by
  rw [List.getD_eq_getElem?_getD, List.getElem?_eq_getElem (by rw [upL_length]; exact h)]; simp [upL]
def elF (b : List Int) (a : Int) : Int := hv b (a.toNat * 4) 4 4
def elI (b : List Int) (a : Int) : Int := wrap64 (hv b (a.toNat * 8) 8 8)
def elB (b : List Int) (a : Int) : Bool := hv b a.toNat 1 1 == 1
/-- FromBytes: the tensor and the error. -/
def fromE (k : Int) (ds b : List Int) : Int :=
  if newE k ds ≠ 0 then newE k ds else if (b.length : Int) ≠ (sizeV ds).1 * widthV k then 3 else if k = 9 ∧ (∃ i : Nat, i < b.length ∧ 1 < hv b i 1 1) then 1 else 0
def fromT (k : Int) (ds b : List Int) : Ten :=
  (k, ds, if k = 1 then (upL (sizeV ds).1.toNat).map (elF b) else [], if k = 7 then (upL (sizeV ds).1.toNat).map (elI b) else [], if k = 9 then (upL (sizeV ds).1.toNat).map (elB b) else [])
def fromV (k : Int) (ds b : List Int) : Ten := if fromE k ds b = 0 then fromT k ds b else noTen

set_option maxRecDepth 100000 in
set_option maxHeartbeats 4000000 in
theorem rfrom_new (k : Int) (p2 p3 : Option Addr) (c2 c3 : Nat) (ds2 b : List Int) (w : World) (hk : (Lit.int .i64 k).wf = true) (h2 : Ints .i64 w p2 c2 ds2) (h3 : Ints .u8 w p3 c3 b) (hn : newE k ds2 ≠ 0) :
    Calls Try.prog 31 #[.int .i64 k, .slice p2 ds2.length c2, .slice p3 b.length c3] w fun e w' => (∃ C, e = .returned (.tuple #[tenV (fromV k ds2 b) C, .int .i64 (fromE k ds2 b)]) ∧ TenOwn w.heap.size w' (fromV k ds2 b) C) ∧ Below w.heap.size w w' := by
  have e1 : fromE k ds2 b = newE k ds2 := by unfold fromE; rw [if_pos hn]
  have e2 : fromV k ds2 b = noTen := by unfold fromV; rw [if_neg (by rw [e1]; exact hn)]
  have e3 : newV k ds2 = noTen := by unfold newV; rw [if_neg hn]
  rw [e1, e2]
  have NW := hide (fun w h => rnew_any k p2 c2 ds2 w hk h)
  rw [e3] at NW
  obtain ⟨E, hE⟩ : ∃ E, newE k ds2 = E := ⟨_, rfl⟩
  rw [hE] at NW hn ⊢
  have hen : (E != 0) = true := bneT hn
  have H2 := hide h2
  clear e1 e2 e3 hE hn h2 h3
  go_enter Try.func31, Try.ntmps31
  go_wp2_with fail
  refine (unhide NW _ ((unhide H2).below (al1 _ _))).mono ?_
  rintro e w2 ⟨⟨C, rfl, hO⟩, hb⟩
  obtain ⟨qd, ed, qf, ef, qi, ei, qb, eb⟩ := C
  have X2 := hide (Box.below (Box.new w #[.int .i64 0, .slice none 0 0, .slice none 0 0, .slice none 0 0, .slice none 0 0] 27) hb)
  have B2 := hide (bl_tr (al1 _ _) hb)
  unfold tenV tenCells noTen
  simp only
  have z2 : w.heap.size < w2.heap.size := (unhide X2).lt
  have x2 := (unhide X2).cell
  have y2 := (unhide X2).frozen
  clear hb hO NW
  go_wp2_with fail
  exact bodyPost_ret (v := .tuple #[tenV noTen noTA, .int .i64 E]) (by simp [results, Try.results31, go_sem, tenV, tenCells, noTen, noTA, (((unhide X2).set5 (.int .i64 0) (.slice none 0 0) (.slice none 0 0) (.slice none 0 0) (.slice none 0 0)).alloc (.cells #[.int .i64 0, .slice qd 0 ed, .slice qf 0 ef, .slice qi 0 ei, .slice qb 0 eb] 27)).cell]) rfl ⟨⟨noTA, rfl, noTen_own _ _⟩, (bset5 (unhide B2) (by omega) _ _ _ _ _).alloc (by simp [World.setCell]; omega) _⟩
end Go.Proofs.Ytbepkmehnghmcaa
