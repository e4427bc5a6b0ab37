import Derived.Test.YtbepkmehnghmcaaIOf
import Derived.Test.YtbepkmehnghmcaaIOi
import Derived.Test.YtbepkmehnghmcaaIOb

/-
  Layer 5: the document's Bytes and FromBytes for every tensor.
-/
namespace Go.Proofs.Ytbepkmehnghmcaa
open Go.RowKit
set_option linter.unusedVariables false

theorem rbytes_any (T : Ten) (A : TA) (w : World) (h : TenIn w T A) :
    Calls Try.prog 29 #[tenV T A] w fun e w' => (∃ q c, e = .returned (.tuple #[.slice q (bytesV T).length c, .int .i64 (checkV T)]) ∧ Ints .u8 w' q c (bytesV T)) ∧ Below w.heap.size w w' := by
  by_cases hc : checkV T = 0
  · obtain ⟨ty, ds, fs, is, bs⟩ := T
    have eb : bytesV (ty, ds, fs, is, bs) = bytesL (ty, ds, fs, is, bs) := by unfold bytesV; rw [if_pos hc]
    rw [eb, hc]
    rcases known_cases (check_known hc).1 with g | g | g <;> simp only at g <;> subst g
    · exact rbytes_F ds fs is bs A w h hc
    · exact rbytes_I ds fs is bs A w h hc
    · exact rbytes_B ds fs is bs A w h hc
  · exact rbytes_check T A w h hc
theorem rfromb_any (k : Int) (p2 p3 : Option Addr) (c2 c3 : Nat) (ds2 b : List Int) (w : World) (hk : (Lit.int .i64 k).wf = true) (h2 : Ints .i64 w p2 c2 ds2) (h3 : Ints .u8 w p3 c3 b) :
    Calls Try.prog 31 #[.int .i64 k, .slice p2 ds2.length c2, .slice p3 b.length c3] w fun e w' => (∃ C, e = .returned (.tuple #[tenV (fromV k ds2 b) C, .int .i64 (fromE k ds2 b)]) ∧ TenOwn w.heap.size w' (fromV k ds2 b) C) ∧ Below w.heap.size w w' := by
  by_cases hn : newE k ds2 = 0
  · have hkn : known k = true := by
      unfold newE at hn
      by_cases g : known k = false
      · rw [if_pos g] at hn; cases hn
      · simpa using g
    have hs : (sizeV ds2).2 = 0 := by unfold newE at hn; rw [if_neg (by rw [hkn]; decide)] at hn; exact hn
    rcases known_cases hkn with rfl | rfl | rfl
    · exact rfrom_F p2 p3 c2 c3 ds2 b w h2 h3 hs
    · exact rfrom_I p2 p3 c2 c3 ds2 b w h2 h3 hs
    · exact rfrom_B p2 p3 c2 c3 ds2 b w h2 h3 hs
  · exact rfrom_new k p2 p3 c2 c3 ds2 b w hk h2 h3 hn
end Go.Proofs.Ytbepkmehnghmcaa
