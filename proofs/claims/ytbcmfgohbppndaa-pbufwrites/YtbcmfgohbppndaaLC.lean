/-
  Layer 6: the code's readData and readField.
-/
import Derived.Test.YtbcmfgohbppndaaKL
import Derived.Test.YtbcmfgohbppndaaLB
namespace Go.Proofs.Ytbcmfgohbppndaa
open Go.RowKit
set_option linter.unusedVariables false

/-- A field's bytes are new since B, in a block of their own. -/
def OwnD (B : Nat) (w : World) (a : FA) : Prop := w.ownsRow B 5 1 (.slice a.q a.d.length a.c) a.d.length (a.d.map (Value.int .u8))
theorem OwnD.mono {B C : Nat} {w : World} {a : FA} (h : OwnD B w a) (hc : C ≤ B) : OwnD C w a := by
  obtain ⟨h1, h2⟩ := h
  refine ⟨h1, ?_⟩
  rcases h2 with g | ⟨g, cap, cur, hv, hb, rest⟩
  · exact .inl g
  · exact .inr ⟨g, cap, cur, hv, Nat.le_trans hc hb, rest⟩
theorem OwnD.kept {B : Nat} {w w' : World} {a : FA} (h : OwnD B w a) (hk : ∀ g cur, B ≤ g → w.heap[g]? = some (.cells cur 5 (0, 0)) → w'.heap[g]? = w.heap[g]?) : OwnD B w' a := by
  obtain ⟨h1, h2⟩ := h
  refine ⟨h1, ?_⟩
  rcases h2 with g | ⟨g, cap, cur, hv, hb, hh, rest⟩
  · exact .inl g
  · exact .inr ⟨g, cap, cur, hv, hb, (hk g cur hb hh).trans hh, rest⟩
theorem OwnD.below {B : Nat} {w w' : World} {a : FA} (h : OwnD B w a) (hb : Below w.heap.size w w') : OwnD B w' a := h.kept (fun g cur _ hh => hb.block g (lt_of_block hh))
theorem OwnD.no (B : Nat) (w : World) (n wr x : Int) : OwnD B w ⟨n, wr, x, [], none, 0⟩ := World.ownsRow_nil _ _ _ _
theorem OwnD.ty {B : Nat} {w : World} {a : FA} (h : OwnD B w a) : DTy 5 w a := fun hp => by
  rcases h.2 with ⟨_, hn⟩ | ⟨g, cap, cur, hv, hb, hh, _⟩
  · omega
  · simp only [Value.slice.injEq] at hv
    exact ⟨g, 0, cur, hv.1, hh⟩
theorem OwnD.grown {B : Nat} {e : TypeId} {w w0 w' : World} {a : FA} {v : Value} {l : List FA} (h : OwnD B w a) (ho : OwnF e w0 w v l) (hne : ¬ e = 5) (hg : w.grownBy w' v.ownBlock) : OwnD B w' a := by
  refine h.kept (fun b cur _ hb => ?_)
  refine hg.block b (lt_of_block hb) (fun e2 => ?_)
  rcases ho.1.2 with ⟨hv, _⟩ | ⟨k, cap, cur2, hv, _, hh, _⟩
  · rw [hv] at e2; cases e2
  · rw [hv] at e2
    simp only [Value.ownBlock, Option.some.injEq] at e2
    subst e2
    rw [hb] at hh
    simp only [Option.some.injEq, Obj.cells.injEq] at hh
    exact hne hh.2.1.symm
theorem OwnD.set5 {B C : Nat} {w : World} {a : FA} {g r : Nat} (h : OwnD B w a) (hg : g < B) (hr : r < B) (j : Nat) (u u0 u1 u2 u3 : Value) :
    OwnD B (((((w.setCell ⟨g, j, none⟩ u).setCell ⟨r, 0, none⟩ u0).setCell ⟨r, 1, none⟩ u1).setCell ⟨r, 2, none⟩ u2).setCell ⟨r, 3, none⟩ u3) a := by
  refine h.kept (fun b cur hb _ => ?_)
  rw [Below.heap_setCell _ _ _ _ (by simp; omega), Below.heap_setCell _ _ _ _ (by simp; omega), Below.heap_setCell _ _ _ _ (by simp; omega), Below.heap_setCell _ _ _ _ (by simp; omega), Below.heap_setCell _ _ _ _ (by simp; omega)]
theorem own_d {w wr : World} {n wi x : Int} {d : List Int} {q : Option Addr} {c : Nat} (h : OwnG 5 (Value.int .u8) w wr (.slice q d.length c) d) : OwnD w.heap.size wr ⟨n, wi, x, d, q, c⟩ := h.1
set_option maxRecDepth 100000 in
set_option maxHeartbeats 1000000 in
theorem cdata_no (p : Option Addr) (c : Nat) (b : List Int) (m : Nat) (w : World) (h : Ints .u8 w p c b) (hm : m ≤ b.length) (hs : b.length ≤ 4194304)
    (hno : ∀ x q, rdG 10 (b.drop m) = some (x, q) → (b.length : Int) < ((m + q : Nat) : Int) + x) :
    Calls Try.prog 47 #[.slice p b.length c, .int .i64 m] w fun e w' => e = .returned (.tuple #[.slice none 0 0, .int .i64 0, .int .i64 6]) ∧ w' = w := by
  have hB := hide (wf_isB h.2.2.1)
  have RV := hide (crdv_any p c b (m : Int) w h (by omega))
  rw [rdV_in hm] at RV
  clear h
  cases hy : rdG 10 (b.drop m) with
  | none =>
    rw [hy] at RV
    simp only at RV
    clear hno hy
    go_enter Try.func47, Try.ntmps47
    go_wp2_with fail
    refine (unhide RV).mono ?_
    rintro e v ⟨rfl, rfl⟩
    go_wp2_with fail
    go_ret3
    exact ⟨rfl, rfl⟩
  | some y =>
    obtain ⟨x, q⟩ := y
    rw [hy] at RV
    simp only at RV
    obtain ⟨x0, x1⟩ := rdG10_range (isB_drop (unhide hB) m) hy
    obtain ⟨q1, q2, q3⟩ := rdG_count 10 _ x q hy
    simp at q3
    have hbig := hno x q hy
    obtain ⟨m2, hm2⟩ : ∃ m2, m + q = m2 := ⟨_, rfl⟩
    rw [hm2] at RV hbig
    have hm2b : m2 ≤ b.length := by omega
    have tsh : (b.length : Int) - (m2 : Int) < x := by omega
    clear hno hy hbig hm2
    go_enter Try.func47, Try.ntmps47
    go_wp2_with fail
    refine (unhide RV).mono ?_
    rintro e v ⟨rfl, rfl⟩
    go_wp2_with fail
    go_ret3
    exact ⟨rfl, rfl⟩
set_option maxRecDepth 100000 in
set_option maxHeartbeats 1000000 in
theorem cdata_yes (p : Option Addr) (c : Nat) (b : List Int) (m X q : Nat) (w : World) (h : Ints .u8 w p c b) (hm : m ≤ b.length) (hs : b.length ≤ 4194304)
    (hy : rdG 10 (b.drop m) = some ((X : Int), q)) (hX : m + q + X ≤ b.length) :
    Calls Try.prog 47 #[.slice p b.length c, .int .i64 m] w fun e w' => ∃ v, e = .returned (.tuple #[v, .int .i64 ((m + q + X : Nat) : Int), .int .i64 0]) ∧ OwnG 5 (Value.int .u8) w w' v ((b.drop (m + q)).take X) := by
  have A1 := hide h
  have hcap := h.1
  have hcm := h.2.1
  have RV := hide (crdv_any p c b (m : Int) w h (by omega))
  rw [rdV_in hm] at RV
  clear h
  rw [hy] at RV
  simp only at RV
  obtain ⟨q1, q2, q3⟩ := rdG_count 10 _ _ q hy
  simp at q3
  obtain ⟨m2, hm2⟩ : ∃ m2, m + q = m2 := ⟨_, rfl⟩
  rw [hm2] at RV hX ⊢
  have hm2b : m2 ≤ b.length := by omega
  have tsh : ¬ (b.length : Int) - (m2 : Int) < (X : Int) := by omega
  obtain ⟨b3, o3, e3, hb3, hc3⟩ := (unhide A1).lies (show 0 < b.length by omega)
  have CT := hide ((unhide A1).cut e3 m2 X (by omega)).ls
  have hlen : ((b.drop m2).take X).length = X := by simp; omega
  subst e3
  have CL : Hid (∀ q d, Ls (Value.int .u8) w q d ((b.drop m2).take X) → Calls Try.prog 49 #[.slice q X d] w fun e w' => ∃ v, e = .returned v ∧ OwnG 5 (Value.int .u8) w w' v ((b.drop m2).take X)) := hide (fun q d hq => by
    have := cclone_any q d _ w hq (by rw [hlen]; omega)
    rw [hlen] at this
    exact this)
  have HN : Hid (∀ q d, X = 0 → 0 ≤ d → d ≤ 9223372036854775807 → Ls (Value.int .u8) w (some q) d ((b.drop m2).take X)) := hide (fun q d hx h0 h1 => by
    rw [hx, List.take_zero]
    exact ⟨by simp, h1, fun hp => by simp at hp, fun hp => by cases hp⟩)
  generalize (b.drop m2).take X = dd at CT CL HN ⊢
  clear hc3 A1 hlen hy
  obtain ⟨M3, hM3⟩ : ∃ M3, m2 + X = M3 := ⟨_, rfl⟩
  have hwS : (m2 : Int) + (X : Int) = (M3 : Int) := by omega
  have hM1 : M3 ≤ c := by omega
  have hM2 : m2 ≤ M3 := by omega
  have hM4 : M3 - m2 = X := by omega
  have hM5 : M3 ≤ b.length := by omega
  have hX0 : X ≤ b.length := by omega
  rw [hM3]
  clear hM3 hX hm2
  by_cases hcx : c = m2
  · have hx0 : X = 0 := by omega
    subst hcx hx0
    have hM6 : M3 = c := by omega
    subst hM6
    have CL2 := hide (unhide CL (some ⟨b3, o3, none⟩) 0 (unhide HN _ _ rfl (by omega) (by omega)))
    clear CL HN CT
    go_enter Try.func47, Try.ntmps47
    go_wp2_with fail
    refine (unhide RV).mono ?_
    rintro e v ⟨rfl, hv⟩
    replace hv := hv.symm
    subst hv
    go_wp2_with fail
    refine (unhide CL2).mono ?_
    rintro e w1 ⟨v1, rfl, hO⟩
    have HO := hide hO
    clear hO CL2
    go_wp2_with fail
    go_ret3
    exact ⟨_, rfl, unhide HO⟩
  · have CL2 := hide (unhide CL (some ⟨b3, o3 + m2, none⟩) (c - m2) (unhide CT))
    clear CL HN CT
    go_enter Try.func47, Try.ntmps47
    go_wp2_with fail
    refine (unhide RV).mono ?_
    rintro e v ⟨rfl, hv⟩
    replace hv := hv.symm
    subst hv
    go_wp2_with fail
    refine (unhide CL2).mono ?_
    rintro e w1 ⟨v1, rfl, hO⟩
    have HO := hide hO
    clear hO CL2
    go_wp2_with fail
    go_ret3
    exact ⟨_, rfl, unhide HO⟩
end Go.Proofs.Ytbcmfgohbppndaa
