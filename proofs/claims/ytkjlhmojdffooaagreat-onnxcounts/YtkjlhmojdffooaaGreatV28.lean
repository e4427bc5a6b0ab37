import Derived.Laws.BytesArg
import Derived.Lib.SlBytesConst
import Derived.Laws.BytesString
import Derived.Test.YtkjlhmojdffooaaGreatV07
import Derived.Test.YtkjlhmojdffooaaGreatV11
import Derived.Test.YtkjlhmojdffooaaGreatV12
import Derived.Test.YtkjlhmojdffooaaGreatV15
import Derived.Test.YtkjlhmojdffooaaGreatV17
import Derived.Test.YtkjlhmojdffooaaGreatV22
import Derived.Test.YtkjlhmojdffooaaGreatV24
import Derived.Test.YtkjlhmojdffooaaGreatV27

/-
  Layer 6: the document's examples.
-/
namespace Go.Proofs.YtkjlhmojdffooaaGreat
open Go.RowKit
set_option linter.unusedVariables false

theorem box_ints {u : World} {k : Nat} {cs : Array Value} {t : TypeId} (h : Box u k cs t) (xs : List Int) (hc : cs = (xs.map (Value.int .u8)).toArray) (hx : ∀ x ∈ xs, (Lit.int .u8 x).wf = true) (hn : xs.length ≤ 1000) : Ints .u8 u (some ⟨k, 0, none⟩) xs.length xs := by
  refine ⟨Nat.le_refl _, by omega, hx, fun _ => ⟨k, 0, rfl, h.lt, fun i hi => ?_⟩, fun h => by cases h⟩
  rw [h.cell, hc, Nat.zero_add]
  simp [List.getElem?_eq_getElem hi]
end Go.Proofs.YtkjlhmojdffooaaGreat

/-
  Layer 6: what the statements' walks lean on.
-/
namespace Go.Proofs.YtkjlhmojdffooaaGreat
open Go.RowKit
set_option linter.unusedVariables false

theorem readV_err (b : List Int) (h : ¬ (readV b).2 = 0) : (readV b).1 = [] := by
  unfold readV at h ⊢
  split
  · rfl
  · rename_i h1
    rw [if_neg h1] at h
    cases hl : readL b with
    | none => rfl
    | some l => rw [hl] at h; exact absurd rfl h
theorem map_nil_of {L : List FA} (h : L.map FA.f = []) : L = [] := by
  cases L with
  | nil => rfl
  | cons a r => cases h
theorem msg_sum : ∀ {L : List FA}, (∀ f ∈ L.map FA.f, mayF f) → sumD L + L.length ≤ (msgB (L.map FA.f)).length
  | [], _ => by simp [sumD]
  | a :: r, h => by
    have ih := msg_sum (L := r) (fun f hf => h f (by simp only [List.map_cons, List.mem_cons]; exact .inr hf))
    have e : msgB ((a :: r).map FA.f) = fieldB a.f ++ msgB (r.map FA.f) := by simp [msgB]
    have e2 : sumD (a :: r) = a.d.length + sumD r := by simp [sumD]
    have h1 := headB_data (h a.f (by simp))
    have h2 : 1 ≤ (headB a.f).length := by
      unfold headB
      have := (varV_len (a.f.1 * 8 + a.f.2.1)).1
      rw [List.length_append]; omega
    rw [e, e2, List.length_append, h1, List.length_append, List.length_cons]
    have : a.f.2.2.2.length = a.d.length := rfl
    omega
theorem read_sum {b : List Int} {L : List FA} (hb : isB b) (hs : b.length ≤ 4194304) (h : L.map FA.f = (readV b).1) : sumD L + L.length ≤ 4194304 := by
  by_cases h0 : (readV b).2 = 0
  · unfold readV at h h0
    rw [if_neg (by omega)] at h h0
    cases hl : readL b with
    | none => rw [hl] at h0; cases h0
    | some l =>
      rw [hl] at h
      simp only at h
      obtain ⟨m1, m2⟩ := readF_may _ b l hb hl
      have := msg_sum (L := L) (fun f hf => by rw [h] at hf; exact (m1 f hf).1)
      rw [h] at this
      omega
  · rw [readV_err b h0] at h
    rw [map_nil_of h]
    simp [sumD]
theorem OwnF.empty (t : TypeId) (w : World) : OwnF t w (w.alloc (.cells #[] t)) (.slice (some ⟨w.heap.size, 0, none⟩) 0 0) [] :=
  ⟨⟨by simp, .inr ⟨w.heap.size, 0, #[], rfl, Nat.le_refl _, by show (w.heap.push (Obj.cells #[] t))[w.heap.size]? = _; simp, Nat.le_refl _, by simp, by simp, by simp⟩⟩, al1p _ _⟩
end Go.Proofs.YtkjlhmojdffooaaGreat

/-
  Layer 7: the code's messages: what is read of a field.
-/
namespace Go.Proofs.YtkjlhmojdffooaaGreat
open Go.RowKit
set_option linter.unusedVariables false

theorem fold_push : ∀ (l : List Int) (s : ByteArray), l.foldl (fun r n => r.push (UInt8.ofNat n.toNat)) s = ⟨s.data ++ (l.map fun n => UInt8.ofNat n.toNat).toArray⟩
  | [], s => by simp
  | x :: r, s => by
    rw [List.foldl_cons, fold_push r]
    congr 1
    apply Array.toList_inj.1
    simp [ByteArray.push]
theorem conv_str {src dst e : TypeId} {w : World} {p : Option Addr} {c : Nat} {l : List Int} (hs : Tryz.prog.underlying src = some (.slice e)) (he : Tryz.prog.underlying e = some (.int .u8)) (hd : Tryz.prog.underlying dst = some .string) (h : Ls (Value.int .u8) w p c l) :
    (convert src dst (.slice p l.length c)).run Tryz.prog w = .ok (.string (strOfNums l)) w := by
  rw [run_convert_bytes_string w src dst e p l.length c hs he hd]
  cases p with
  | none =>
    have hx0 : l = [] := by
      rcases Nat.eq_zero_or_pos l.length with g | g
      · exact List.eq_nil_of_length_eq_zero g
      · obtain ⟨b, o, e, _⟩ := h.lies g; cases e
    subst hx0
    simp [Conv.bytesToString]
    rfl
  | some ad =>
    rw [run_bytesToString w ad l.length c l (by
      have h1 := run_loadCells_list (P := Tryz.prog) (w := w) ad (l.map (Value.int .u8)) (ls_cells h)
      simpa using h1), fold_push]
    simp [strOfNums, ByteArray.empty, ByteArray.emptyWithCapacity]
    rfl
theorem bad3_if (b : Bool) (k : Int) (hk : 0 ≤ k) : max k (lev (bad3 b)) = if b = true then max k 3 else k := by cases b <;> simp [bad3, lev]; omega
theorem odd3_if (b : Bool) (k : Int) (hk : 0 ≤ k) : max k (lev (odd3 b)) = if b = true then max k 2 else k := by cases b <;> simp [odd3, lev]; omega
theorem big3_if (b : Bool) (k : Int) (hk : 0 ≤ k) : max k (lev (big3 b)) = if b = true then max k 1 else k := by cases b <;> simp [big3, lev]; omega
/-- The end of a note. -/
def NEnd (g : Nat) (f : F3) (w : World) (e : Ending) (w' : World) : Prop := e = .returned (.tuple #[]) ∧ RE g f w w'

theorem cnote_bad (g : Nat) (q : Option Addr) (n d : Nat) (is : Bool) (w : World) (hw : WstE g w) :
    Calls Tryz.prog 58 #[msV q n d g, .bool is, .int .i64 3] w fun e w' => NEnd g (bad3 is) w e w' :=
  (cnote_any g q n d is 3 w hw).mono fun e w' h => ⟨h.1, h.2.1, fun j hj hb => by rw [bad3_if is j hj]; exact h.2.2 j hb⟩

theorem cnote_odd (g : Nat) (q : Option Addr) (n d : Nat) (is : Bool) (w : World) (hw : WstE g w) :
    Calls Tryz.prog 58 #[msV q n d g, .bool is, .int .i64 2] w fun e w' => NEnd g (odd3 is) w e w' :=
  (cnote_any g q n d is 2 w hw).mono fun e w' h => ⟨h.1, h.2.1, fun j hj hb => by rw [odd3_if is j hj]; exact h.2.2 j hb⟩

theorem cnote_big (g : Nat) (q : Option Addr) (n d : Nat) (is : Bool) (w : World) (hw : WstE g w) :
    Calls Tryz.prog 58 #[msV q n d g, .bool is, .int .i64 1] w fun e w' => NEnd g (big3 is) w e w' :=
  (cnote_any g q n d is 1 w hw).mono fun e w' h => ⟨h.1, h.2.1, fun j hj hb => by rw [big3_if is j hj]; exact h.2.2 j hb⟩

set_option maxRecDepth 100000 in
set_option maxHeartbeats 1000000 in
theorem climit_any (g : Nat) (q : Option Addr) (n d : Nat) (size most : Int) (w : World) (hw : WstE g w) :
    Calls Tryz.prog 124 #[msV q n d g, .int .i64 size, .int .i64 most] w fun e w' => NEnd g (big3 (decide (most < size))) w e w' := by
  have C1 := hide (fun v (hv : WstE g v) => cnote_big g q n d (decide (most < size)) v hv)
  have HW := hide hw
  clear hw
  generalize hD : decide (most < size) = D at C1 ⊢
  unfold msV at C1 ⊢
  go_enter Tryz.func124, Tryz.ntmps124
  go_wp2_with fail
  try rw [hD]
  refine (unhide C1 _ ((unhide HW).below (al1p _ _))).mono ?_
  rintro e v ⟨rfl, hv⟩
  have H1 := hide ((RE.below (al1p _ _) (unhide HW)).trans hv)
  clear hv
  rw [no_f3] at H1
  go_wp2_with fail
  go_end0
  exact ⟨rfl, unhide H1⟩
theorem MsIn.sw {g r : Nat} {w w0 : World} {q : Option Addr} {d : Nat} {L : List FA} (h : MsIn g w q d L) (hr : MsIn r w0 q d L) : MsIn r w q d L := ⟨h.1, hr.2.1, hr.2.2.1, h.2.2.2⟩
theorem Stay.set (r : Nat) (w : World) (j : Nat) (u : Value) : Stay r w (w.setCell ⟨r, j, none⟩ u) := ⟨(Below.refl r w).setCell (p := ⟨r, j, none⟩) (Nat.le_refl r) u, fun k hk _ => Below.heap_setCell _ _ _ _ (by simp only; omega)⟩
theorem RE.setNew {g r : Nat} {f : F3} {w w' : World} (h : RE g f w w') (hr : w.heap.size ≤ r) (hg : g < w.heap.size) (j : Nat) (u : Value) : RE g f w (w'.setCell ⟨r, j, none⟩ u) :=
  ⟨⟨h.1.1.setCell (p := ⟨r, j, none⟩) (by simp only; omega) u, fun k h1 h2 => (Below.heap_setCell _ _ _ _ (by simp only; omega)).trans (h.1.2 k h1 h2)⟩, fun k hk hb => Box.other (h.2 k hk hb) (by omega) j u⟩
/-- Fields that lie in no block below B. -/
def FrM (B : Nat) (q : Option Addr) (L : List FA) : Prop := ∀ r, r < B → Off r q L.length ∧ ∀ a ∈ L, Off r a.q a.d.length
theorem ownL_ms {g : Nat} {w w' : World} {v : Value} {L : List FA} (h : OwnL w w' v L) (hg : g < w.heap.size) (hs : sumD L + L.length ≤ 4194304) : ∃ q d, v = .slice q L.length d ∧ MsIn g w' q d L := by
  obtain ⟨q, d, hv, hc, hf⟩ := h.1.form
  refine ⟨q, d, hv, ⟨hc, fun a ha => (h.2 a ha).1⟩, fun b o e hp => ?_, fun a ha b o e hp => ?_, hs⟩
  · have := (hf b o e (by omega)).1; omega
  · rcases (h.2 a ha).2.2 with ⟨hv2, h0⟩ | ⟨k, cap, cur, hv2, hb, _⟩
    · simp only [Value.slice.injEq] at hv2
      rw [hv2.1] at e; cases e
    · simp only [Value.slice.injEq] at hv2
      rw [hv2.1] at e
      simp only [Option.some.injEq, Addr.mk.injEq] at e
      omega
set_option maxRecDepth 100000 in
set_option maxHeartbeats 2000000 in
theorem copened_any (g : Nat) (q : Option Addr) (n d : Nat) (p : Option Addr) (c : Nat) (b : List Int) (w : World) (hw : WstE g w) (hb : Ints .u8 w p c b) (hl : b.length ≤ 4194304) :
    Calls Tryz.prog 27 #[msV q n d g, .slice p b.length c] w fun e w' => ∃ q' d' L, e = .returned (msV q' L.length d' g) ∧ Hid (L.map FA.f = (fieldsP b).1 ∧ MsIn g w' q' d' L ∧ RE g (fieldsP b).2 w w' ∧ FrM w.heap.size q' L) := by
  have C1 := hide (fun v (hv : Below w.heap.size w v) => cread_any p c b v (hb.below hv))
  have HS := hide (fun L => read_sum (L := L) (wf_isB hb.2.2.1) hl)
  have HF : Hid (fieldsP b = ((readV b).1, bad3 ((readV b).2 != 0))) := hide rfl
  generalize readV b = R at C1 HS HF
  obtain ⟨R1, R2⟩ := R
  simp only at C1 HS HF
  rw [unhide HF]
  have C2 := hide (fun v (hv : WstE g v) => cnote_bad g q n d (R2 != 0) v hv)
  obtain ⟨D, hD⟩ : ∃ D, (R2 != 0) = D := ⟨_, rfl⟩
  rw [hD] at C2 ⊢
  have HW := hide hw
  have gl := hw.lt
  clear hw hb HF
  unfold msV at C2 ⊢
  go_enter Tryz.func27, Tryz.ntmps27
  go_wp2_with fail
  refine (unhide C1 _ (al2p _ _ _)).mono ?_
  rintro e w1 ⟨v1, L, rfl, hL, hO⟩
  obtain ⟨q', d', rfl, hm⟩ := ownL_ms (g := g) (unhide hO) (by simp; omega) (unhide HS L (unhide hL))
  have HFr : Hid (FrM w.heap.size q' L) := hide (fun r hr => by
    obtain ⟨q2, d2, e2, h2⟩ := ownL_ms (g := r) (unhide hO) (by simp; omega) (unhide HS L (unhide hL))
    simp only [Value.slice.injEq] at e2
    obtain ⟨rfl, _, rfl⟩ := e2
    exact ⟨h2.2.1, h2.2.2.1⟩)
  have HMr : Hid (MsIn (w.heap.size + 1) w1 q' d' L) := hide (by
    obtain ⟨q2, d2, e2, h2⟩ := ownL_ms (g := w.heap.size + 1) (unhide hO) (by simp) (unhide HS L (unhide hL))
    simp only [Value.slice.injEq] at e2
    obtain ⟨rfl, _, rfl⟩ := e2
    exact h2)
  have B1 := hide (bl_tr (al2p w _ _) (unhide hO).1.2)
  have HM := hide hm
  have X1 := hide (Box.below (Box.alloc (Box.new w #[.slice q n d, .pointer (some ⟨g, 0, none⟩)] 58) _) (unhide hO).1.2)
  have Y1 := hide (Box.below (Box.new (w.alloc (Obj.cells #[.slice q n d, .pointer (some ⟨g, 0, none⟩)] 58)) #[.slice none 0 0, .pointer none] 58) (unhide hO).1.2)
  simp only [alloc_size6] at Y1
  have x1 := (unhide X1).cell
  have y1 := (unhide Y1).cell
  have z1 := (unhide Y1).frozen
  clear hO hm C1
  go_wp2_with fail
  try rw [hD]
  refine (unhide C2 _ ((unhide HW).below (unhide B1))).mono ?_
  rintro e w2 ⟨rfl, hr⟩
  have R1' := hide ((RE.below (unhide B1) (unhide HW)).trans hr)
  rw [no_f3] at R1'
  have HM2 := hide ((unhide HM).stay hr.1)
  have x2 : ∀ j, w2.cell? ⟨w.heap.size, j, none⟩ = (#[.slice q n d, .pointer (some ⟨g, 0, none⟩)] : Array Value)[j]? := fun j => (World.cell?_of_block (w := w1) (hr.1.block (by simp only; omega) (unhide X1).lt)).trans ((unhide X1).cell j)
  have Y2 : Hid (Box w2 (w.heap.size + 1) #[.slice none 0 0, .pointer none] 58) := hide ((hr.1.block (by omega) (unhide Y1).lt).trans (unhide Y1))
  have y2 := (unhide Y2).cell
  have z2 := (unhide Y2).frozen
  clear hr y1 z1
  go_wp2_with fail
  have Y3 := hide ((unhide Y2).set2 (.slice q' L.length d') (.pointer (some ⟨g, 0, none⟩)))
  refine bodyPost_ret ?_ rfl ⟨q', d', L, rfl, hide ⟨unhide hL, ((((unhide HM2).sw (unhide HMr)).stay ((Stay.set _ _ _ _).trans (Stay.set _ _ _ _))).sw (unhide HM)), ((unhide R1').setNew (by omega) (by omega) _ _).setNew (by omega) (by omega) _ _, unhide HFr⟩⟩
  simp [results, Tryz.results27, go_sem, (unhide Y3).cell]

end Go.Proofs.YtkjlhmojdffooaaGreat

/-
  Layer 7: the code's messages: single fields.
-/
namespace Go.Proofs.YtkjlhmojdffooaaGreat
open Go.RowKit
set_option linter.unusedVariables false

theorem ownD_off {B g : Nat} {w : World} {a : FA} (h : OwnD B w a) (hg : g < B) : Off g a.q a.d.length := fun b o e hp => by
  rcases h.2 with ⟨hv2, h0⟩ | ⟨k, cap, cur, hv2, hb, _⟩
  · simp only [Value.slice.injEq] at hv2
    rw [hv2.1] at e; cases e
  · simp only [Value.slice.injEq] at hv2
    rw [hv2.1] at e
    simp only [Option.some.injEq, Addr.mk.injEq] at e
    omega
theorem FaIn.stay {g : Nat} {w w' : World} {a : FA} (h : FaIn w a) (ho : Off g a.q a.d.length) (s : Stay g w w') : FaIn w' a := ⟨h.1, h.2.1, h.2.2.1, h.2.2.2.stay7 ho s⟩
theorem Stay.box {g k : Nat} {w w' : World} {cs : Array Value} {t : TypeId} (s : Stay g w w') (h : Box w k cs t) (hk : k ≠ g) : Box w' k cs t := (s.block hk h.lt).trans h
set_option maxRecDepth 100000 in
set_option maxHeartbeats 2000000 in
theorem clastm_any (g : Nat) (q : Option Addr) (d : Nat) (L : List FA) (num wire : Int) (w : World) (hw : WstE g w) (h : MsIn g w q d L) :
    Calls Tryz.prog 111 #[msV q L.length d g, .int .i64 num, .int .i64 wire] w fun e w' => ∃ a, e = .returned (.tuple #[faV a, .bool (lastV (L.map FA.f) num wire).2.1]) ∧ Hid (a.f = (lastV (L.map FA.f) num wire).1 ∧ FaIn w' a ∧ (∀ r, r < w.heap.size → Off r a.q a.d.length) ∧ RE g (bad3 ((lastV (L.map FA.f) num wire).2.2 != 0)) w w') := by
  obtain ⟨s1, s2, s3⟩ := h.small
  have C1 := hide (fun v (hv : Below w.heap.size w v) => clast_any q d L num wire v (h.1.below hv) (by omega) (fun a ha => by have := s3 a ha; omega))
  generalize lastV (L.map FA.f) num wire = R at C1 ⊢
  obtain ⟨R1, R2, R3⟩ := R
  simp only at C1 ⊢
  have C2 := hide (fun v (hv : WstE g v) => cnote_bad g q L.length d (R3 != 0) v hv)
  obtain ⟨D, hD⟩ : ∃ D, (R3 != 0) = D := ⟨_, rfl⟩
  rw [hD] at C2 ⊢
  have HW := hide hw
  have gl := hw.lt
  clear hw h s3
  unfold msV at C2 ⊢
  go_enter Tryz.func111, Tryz.ntmps111
  go_wp2_with fail
  refine (unhide C1 _ (al2p _ _ _)).mono ?_
  rintro e w1 ⟨a, rfl, hq⟩
  obtain ⟨h1, h2, h3, h4⟩ := unhide hq
  have H1 := hide h1
  have H2 := hide h2
  have H3 := hide (fun r (hr : r < w.heap.size) => ownD_off (g := r) h3 (by simp; omega))
  have H4 := hide (ownD_off (g := w.heap.size + 1) h3 (by simp))
  have B1 := hide (fun o => bl_tr (bl_tr (al2p w _ _) h4) (al1p w1 o))
  have X1 := hide (Box.below (Box.alloc (Box.new w #[.slice q L.length d, .pointer (some ⟨g, 0, none⟩)] 58) _) h4)
  have Y1 := hide (Box.below (Box.new (w.alloc (Obj.cells #[.slice q L.length d, .pointer (some ⟨g, 0, none⟩)] 58)) #[.int .i64 0, .int .i64 0, .int .u64 0, .slice none 0 0] 148) h4)
  simp only [alloc_size6] at Y1
  have l1 := (unhide Y1).lt
  have x1 := fun o => ((unhide X1).alloc o).cell
  clear hq h1 h2 h3 h4 C1
  obtain ⟨an, awr, ax, ad, aq, ac⟩ := a
  unfold faV
  simp only
  go_wp2_with fail
  try rw [hD]
  refine (unhide C2 _ ((unhide HW).below (unhide B1 _))).mono ?_
  rintro e w2 ⟨rfl, hr⟩
  have R1' := hide ((RE.below (unhide B1 _) (unhide HW)).trans hr)
  rw [no_f3] at R1'
  have Y2 := hide (hr.1.box ((unhide Y1).alloc _) (by omega))
  have y2 := (unhide Y2).cell
  have z2 := (unhide Y2).frozen
  have F2 := hide (hr.1.box (Box.new w1 #[.int .i64 an, .int .i64 awr, .int .u64 ax, .slice aq ad.length ac] 148) (by omega))
  have f2 := (unhide F2).cell
  have H5 := hide (((unhide H2).below (al1p w1 _)).stay (unhide H3 g gl) hr.1)
  clear hr
  go_wp2_with fail
  have Y3 := hide ((unhide Y2).set4 (.int .i64 an) (.int .i64 awr) (.int .u64 ax) (.slice aq ad.length ac))
  refine bodyPost_ret ?_ rfl ⟨⟨an, awr, ax, ad, aq, ac⟩, rfl, hide ⟨unhide H1, (unhide H5).stay (unhide H4) ((((Stay.set _ _ _ _).trans (Stay.set _ _ _ _)).trans (Stay.set _ _ _ _)).trans (Stay.set _ _ _ _)), unhide H3, ((((unhide R1').setNew (by omega) (by omega) _ _).setNew (by omega) (by omega) _ _).setNew (by omega) (by omega) _ _).setNew (by omega) (by omega) _ _⟩⟩
  simp [results, Tryz.results111, go_sem, (unhide Y3).cell, faV]
theorem Off.nil {g : Nat} {p : Option Addr} : Off g p 0 := fun _ _ _ h => by omega
set_option maxRecDepth 100000 in
set_option maxHeartbeats 2000000 in
theorem cnum_any (g : Nat) (q : Option Addr) (d : Nat) (L : List FA) (num : Int) (w : World) (hw : WstE g w) (h : MsIn g w q d L) :
    Calls Tryz.prog 57 #[msV q L.length d g, .int .i64 num] w fun e w' => e = .returned (.int .i64 (wholeP (L.map FA.f) num).1) ∧ RE g ((wholeP (L.map FA.f) num).2) w w' := by
  have C1 := hide (fun v (hv : Below w.heap.size w v) => clastm_any g q d L num 0 v (hw.below hv) (h.stay (Stay.below hv (Nat.le_of_lt hw.lt))))
  rw [show (wholeP (L.map FA.f) num).2 = bad3 ((lastV (L.map FA.f) num 0).2.2 != 0) from rfl]
  unfold wholeP i64w
  generalize lastV (L.map FA.f) num 0 = R at C1 ⊢
  obtain ⟨R1, R2, R3⟩ := R
  simp only at C1 ⊢
  generalize (R3 != 0) = D at C1 ⊢
  have HW := hide hw
  clear hw h
  unfold msV at C1 ⊢
  go_enter Tryz.func57, Tryz.ntmps57
  go_wp2_with fail
  refine (unhide C1 _ (al1p _ _)).mono ?_
  rintro e w1 ⟨a, rfl, hq⟩
  obtain ⟨h1, h2, h3, h4⟩ := unhide hq
  have r1 := (RE.below (al1p w _) (unhide HW)).trans h4
  rw [no_f3] at r1
  have R1' := hide (fun o => r1.trans (RE.below (al1p w1 o) (r1.wst (unhide HW))))
  subst h1
  have H2 := hide h2
  clear hq h4 C1 r1
  obtain ⟨an, awr, ax, ad, aq, ac⟩ := a
  unfold faV
  simp only
  go_wp2_with fail
  go_ret
  exact ⟨by first | rfl | (show _ = Ending.returned (.int .i64 (IntKind.i64.wrap ax)); rw [IntKind.wrap_i64]; rfl) | (show _ = Ending.returned (.int .i64 (IntKind.i64.wrap ax)); simp [wrap64, IntKind.wrap_i64]), RE.eq (unhide R1' _) (by rw [f3_no])⟩

set_option maxRecDepth 100000 in
set_option maxHeartbeats 2000000 in
theorem cflt_any (g : Nat) (q : Option Addr) (d : Nat) (L : List FA) (num : Int) (w : World) (hw : WstE g w) (h : MsIn g w q d L) :
    Calls Tryz.prog 228 #[msV q L.length d g, .int .i64 num] w fun e w' => e = .returned (.int .u32 ((lastF (L.map FA.f) num 5).1.2.2.1 % 4294967296)) ∧ RE g ((lastF (L.map FA.f) num 5).2) w w' := by
  have C1 := hide (fun v (hv : Below w.heap.size w v) => clastm_any g q d L num 5 v (hw.below hv) (h.stay (Stay.below hv (Nat.le_of_lt hw.lt))))
  rw [show (lastF (L.map FA.f) num 5).2 = bad3 ((lastV (L.map FA.f) num 5).2.2 != 0) from rfl]
  unfold lastF
  generalize lastV (L.map FA.f) num 5 = R at C1 ⊢
  obtain ⟨R1, R2, R3⟩ := R
  simp only at C1 ⊢
  generalize (R3 != 0) = D at C1 ⊢
  have HW := hide hw
  clear hw h
  unfold msV at C1 ⊢
  go_enter Tryz.func228, Tryz.ntmps228
  go_wp2_with fail
  refine (unhide C1 _ (al1p _ _)).mono ?_
  rintro e w1 ⟨a, rfl, hq⟩
  obtain ⟨h1, h2, h3, h4⟩ := unhide hq
  have r1 := (RE.below (al1p w _) (unhide HW)).trans h4
  rw [no_f3] at r1
  have R1' := hide (fun o => r1.trans (RE.below (al1p w1 o) (r1.wst (unhide HW))))
  subst h1
  have H2 := hide h2
  clear hq h4 C1 r1
  obtain ⟨an, awr, ax, ad, aq, ac⟩ := a
  unfold faV
  simp only
  go_wp2_with fail
  go_ret
  exact ⟨rfl, RE.eq (unhide R1' _) (by rw [f3_no])⟩

set_option maxRecDepth 100000 in
set_option maxHeartbeats 2000000 in
theorem ctxt_any (g : Nat) (q : Option Addr) (d : Nat) (L : List FA) (num : Int) (w : World) (hw : WstE g w) (h : MsIn g w q d L) :
    Calls Tryz.prog 115 #[msV q L.length d g, .int .i64 num] w fun e w' => e = .returned (strV (textP (L.map FA.f) num).1) ∧ RE g ((textP (L.map FA.f) num).2) w w' := by
  have C1 := hide (fun v (hv : Below w.heap.size w v) => clastm_any g q d L num 2 v (hw.below hv) (h.stay (Stay.below hv (Nat.le_of_lt hw.lt))))
  rw [show (textP (L.map FA.f) num).2 = bad3 ((lastV (L.map FA.f) num 2).2.2 != 0) from rfl]
  unfold textP strV
  generalize lastV (L.map FA.f) num 2 = R at C1 ⊢
  obtain ⟨R1, R2, R3⟩ := R
  simp only at C1 ⊢
  generalize (R3 != 0) = D at C1 ⊢
  have HW := hide hw
  clear hw h
  unfold msV at C1 ⊢
  go_enter Tryz.func115, Tryz.ntmps115
  go_wp2_with fail
  refine (unhide C1 _ (al1p _ _)).mono ?_
  rintro e w1 ⟨a, rfl, hq⟩
  obtain ⟨h1, h2, h3, h4⟩ := unhide hq
  have r1 := (RE.below (al1p w _) (unhide HW)).trans h4
  rw [no_f3] at r1
  have R1' := hide (fun o => r1.trans (RE.below (al1p w1 o) (r1.wst (unhide HW))))
  subst h1
  have H2 := hide h2
  clear hq h4 C1 r1
  obtain ⟨an, awr, ax, ad, aq, ac⟩ := a
  unfold faV
  simp only
  have kc := fun o => conv_str (dst := 9) Tryz.underlying22 Tryz.underlying5 Tryz.underlying9 (((unhide H2).below (al1p w1 o)).2.2.2.ls)
  simp only at kc
  go_wp2_with fail
  go_ret
  exact ⟨rfl, RE.eq (unhide R1' _) (by rw [f3_no])⟩

end Go.Proofs.YtkjlhmojdffooaaGreat

/-
  Layer 7: the code's messages: names, messages, lists.
-/
namespace Go.Proofs.YtkjlhmojdffooaaGreat
open Go.RowKit
set_option linter.unusedVariables false

/-- A row that a call built, whatever it noted besides. -/
def OwnS {α : Type} (t : TypeId) (f : α → Value) (w w' : World) (v : Value) (l : List α) : Prop := w'.ownsRow w.heap.size t 1 v l.length (l.map f)
theorem ownsRow_stay {base k n g : Nat} {e : TypeId} {w w' : World} {v : Value} {xs : List Value} (h : w.ownsRow base e k v n xs) (hg : g < base) (s : Stay g w w') : w'.ownsRow base e k v n xs := by
  obtain ⟨l1, h1⟩ := h
  refine ⟨l1, ?_⟩
  rcases h1 with ⟨rfl, h0⟩ | ⟨b, cap, cur, rfl, hb1, hh, hc, hm, hs2, ht⟩
  · exact .inl ⟨rfl, h0⟩
  · exact .inr ⟨b, cap, cur, rfl, hb1, (s.block (by omega) (lt_of_block hh)).trans hh, hc, hm, hs2, ht⟩
theorem int1_len : ∀ f l, int1 f = some l → l.length ≤ f.2.2.2.length + 1 := fun f l h => by
  unfold int1 at h
  split at h
  · simp at h; subst h; simp
  · split at h
    · have := varsL_len h; omega
    · cases h
theorem allOr_len7 {g1 : Fld → Option (List Int)} (hg : ∀ f l, g1 f = some l → l.length ≤ f.2.2.2.length + 1) (num : Int) : ∀ (L : List FA) (xs : List Int), allOr g1 (allV (L.map FA.f) num) = some xs → xs.length ≤ sumD L + L.length
  | [], xs, h => by simp [allV, allOr] at h; subst h; simp
  | a :: r, xs, h => by
    have e : sumD (a :: r) = a.d.length + sumD r := by simp [sumD]
    rw [e, List.length_cons]
    unfold allV at h
    rw [List.map_cons, List.filter_cons] at h
    split at h
    · rw [allOr] at h
      cases hx : g1 a.f with
      | none => rw [hx] at h; cases h
      | some x =>
        rw [hx] at h
        simp only [Option.map_eq_some_iff] at h
        obtain ⟨y, hy, rfl⟩ := h
        have h1 := hg _ _ hx
        have h2 := allOr_len7 hg num r y hy
        have : a.f.2.2.2 = a.d := rfl
        rw [this] at h1
        rw [List.length_append]
        omega
    · have := allOr_len7 hg num r xs h
      omega
theorem list_len7 {g1 : Fld → Option (List Int)} (hg : ∀ f l, g1 f = some l → l.length ≤ f.2.2.2.length + 1) {L : List FA} {num : Int} : (listV g1 (L.map FA.f) num).1.length ≤ sumD L + L.length := by
  unfold listV
  cases h : allOr g1 (allV (L.map FA.f) num) with
  | none => simp
  | some x => exact allOr_len7 hg num L x h
set_option maxRecDepth 100000 in
set_option maxHeartbeats 1000000 in
theorem cnamed_any (g : Nat) (q : Option Addr) (n d : Nat) (p : Option Addr) (c : Nat) (b : List Int) (w : World) (hw : WstE g w) (hb : Ls (Value.int .u8) w p c b) (ho : Off g p b.length) :
    Calls Tryz.prog 172 #[msV q n d g, .slice p b.length c] w fun e w' => e = .returned (strV b) ∧ RE g (big3 (decide (256 < b.length))) w w' := by
  have C1 := hide (fun v (hv : WstE g v) => climit_any g q n d b.length 256 v hv)
  rw [show decide ((256 : Int) < (b.length : Int)) = decide (256 < b.length) from by rw [decide_eq_decide]; omega] at C1
  generalize decide (256 < b.length) = D at C1 ⊢
  have nl := hb.len
  have HB := hide hb
  have HO := hide ho
  have HW := hide hw
  clear hb ho hw
  unfold msV at C1 ⊢
  unfold strV
  go_enter Tryz.func172, Tryz.ntmps172
  go_wp2_with fail
  refine (unhide C1 _ ((unhide HW).below (al1p _ _))).mono ?_
  rintro e v ⟨rfl, hv⟩
  have H1 := hide ((RE.below (al1p _ _) (unhide HW)).trans hv)
  rw [no_f3] at H1
  have kc := conv_str (dst := 9) Tryz.underlying22 Tryz.underlying5 Tryz.underlying9 (((unhide HB).below (al1p _ _)).stay7 (unhide HO) hv.1)
  clear hv
  go_wp2_with fail
  go_ret
  exact ⟨rfl, unhide H1⟩
set_option maxRecDepth 100000 in
set_option maxHeartbeats 2000000 in
theorem cnam_any (g : Nat) (q : Option Addr) (d : Nat) (L : List FA) (num : Int) (w : World) (hw : WstE g w) (h : MsIn g w q d L) :
    Calls Tryz.prog 117 #[msV q L.length d g, .int .i64 num] w fun e w' => e = .returned (strV (nameP (L.map FA.f) num).1) ∧ RE g (nameP (L.map FA.f) num).2 w w' := by
  have C1 := hide (fun v (hv : Below w.heap.size w v) => clastm_any g q d L num 2 v (hw.below hv) (h.stay (Stay.below hv (Nat.le_of_lt hw.lt))))
  have C2 := hide (fun p c b v (hv : WstE g v) (hb : Ls (Value.int .u8) v p c b) ho => cnamed_any g q L.length d p c b v hv hb ho)
  have HV : Hid (nameP (L.map FA.f) num = ((lastV (L.map FA.f) num 2).1.2.2.2, f3 (bad3 ((lastV (L.map FA.f) num 2).2.2 != 0)) (big3 (decide (256 < (lastV (L.map FA.f) num 2).1.2.2.2.length))))) := hide rfl
  rw [unhide HV]
  clear HV
  generalize lastV (L.map FA.f) num 2 = R at C1 ⊢
  obtain ⟨R1, R2, R3⟩ := R
  simp only at C1 ⊢
  generalize (R3 != 0) = D at C1 ⊢
  have HW := hide hw
  have gl := hw.lt
  clear hw h
  unfold msV at C1 C2 ⊢
  go_enter Tryz.func117, Tryz.ntmps117
  go_wp2_with fail
  refine (unhide C1 _ (al1p _ _)).mono ?_
  rintro e w1 ⟨a, rfl, hq⟩
  obtain ⟨h1, h2, h3, h4⟩ := unhide hq
  have r1 := (RE.below (al1p w _) (unhide HW)).trans h4
  rw [no_f3] at r1
  have X1 := hide (h4.1.box (Box.new w #[.slice q L.length d, .pointer (some ⟨g, 0, none⟩)] 58) (by omega))
  have x1 := fun o => ((unhide X1).alloc o).cell
  have R1' := hide r1
  subst h1
  have H2 := hide h2
  have H3 := hide (h3 g (by simp; omega))
  clear hq h4 C1 r1 h2 h3
  obtain ⟨an, awr, ax, ad, aq, ac⟩ := a
  unfold faV
  simp only
  go_wp2_with fail
  refine (unhide C2 _ _ ad _ (((unhide R1').wst (unhide HW)).below (al1p w1 _)) (((unhide H2).below (al1p w1 _)).2.2.2.ls) (unhide H3)).mono ?_
  rintro e w2 ⟨rfl, hv⟩
  have H5 := hide (((unhide R1').trans (RE.below (al1p w1 _) ((unhide R1').wst (unhide HW)))).trans hv)
  rw [f3_no] at H5
  clear hv
  go_wp2_with fail
  go_ret
  exact ⟨rfl, unhide H5⟩
theorem join_flat (num : Int) : ∀ (L : List FA), ((allV (L.map FA.f) num).flatMap fun f => f.2.2.2).length ≤ sumD L
  | [] => by simp [allV, sumD]
  | a :: r => by
    have ih := join_flat num r
    have e : sumD (a :: r) = a.d.length + sumD r := by simp [sumD]
    rw [e]
    unfold allV at ih ⊢
    rw [List.map_cons, List.filter_cons]
    split
    · rw [List.flatMap_cons, List.length_append]
      have : a.f.2.2.2 = a.d := rfl
      rw [this]; omega
    · omega
theorem joinV_len {L : List FA} {num : Int} : ((joinV (L.map FA.f) num).1).length ≤ sumD L := by
  unfold joinV
  split
  · simp
  · exact join_flat num L
theorem joinV_isB {L : List FA} {num : Int} (h : ∀ a ∈ L, isB a.d) : isB (joinV (L.map FA.f) num).1 := by
  unfold joinV
  split
  · exact fun c hc => by cases hc
  · intro c hc
    obtain ⟨f, hf, hc⟩ := List.mem_flatMap.1 hc
    obtain ⟨a, ha, rfl⟩ := List.mem_map.1 (List.mem_filter.1 hf).1
    exact h a ha c hc
set_option maxRecDepth 100000 in
set_option maxHeartbeats 2000000 in
theorem cinnerm_any (g : Nat) (q : Option Addr) (d : Nat) (L : List FA) (num : Int) (w : World) (hw : WstE g w) (h : MsIn g w q d L) :
    Calls Tryz.prog 62 #[msV q L.length d g, .int .i64 num] w fun e w' => ∃ q' d' L', e = .returned (.tuple #[msV q' L'.length d' g, .bool (messageP (L.map FA.f) num).1.2]) ∧ Hid (L'.map FA.f = (fieldsP (messageP (L.map FA.f) num).1.1).1 ∧ MsIn g w' q' d' L' ∧ RE g (f3 (messageP (L.map FA.f) num).2 (fieldsP (messageP (L.map FA.f) num).1.1).2) w w') := by
  obtain ⟨s1, s2, s3⟩ := h.small
  have C1 := hide (fun v (hv : Below w.heap.size w v) => cjoined_any q d L num v (h.1.below hv) (by omega) (by omega))
  have C3 := hide (fun p c b v (hv : WstE g v) (hb : Ints .u8 v p c b) hl => copened_any g q L.length d p c b v hv hb hl)
  have hjl := joinV_len (L := L) (num := num)
  have HJB : Hid (isB (joinV (L.map FA.f) num).1) := hide (joinV_isB (fun a ha => wf_isB (h.1.2 a ha).2.2.2.2.2.1))
  have HV : Hid (messageP (L.map FA.f) num = (((joinV (L.map FA.f) num).1, (joinV (L.map FA.f) num).2.1), bad3 ((joinV (L.map FA.f) num).2.2 != 0))) := hide rfl
  rw [unhide HV]
  clear HV
  generalize joinV (L.map FA.f) num = R at C1 hjl HJB ⊢
  obtain ⟨R1, R2, R3⟩ := R
  simp only at C1 hjl HJB ⊢
  have C2 := hide (fun v (hv : WstE g v) => cnote_bad g q L.length d (R3 != 0) v hv)
  obtain ⟨D, hD⟩ : ∃ D, (R3 != 0) = D := ⟨_, rfl⟩
  rw [hD] at C2 ⊢
  have HW := hide hw
  have gl := hw.lt
  clear hw h s3
  obtain ⟨FF, hFF⟩ : ∃ F, fieldsP R1 = F := ⟨_, rfl⟩
  have HFF := hide hFF
  rw [hFF]
  clear hFF
  unfold msV at C2 C3 ⊢
  go_enter Tryz.func62, Tryz.ntmps62
  go_wp2_with fail
  refine (unhide C1 _ (al2p _ _ _)).mono ?_
  rintro e w1 ⟨v1, rfl, hO⟩
  obtain ⟨q1, d1, rfl, hl1, hf1⟩ := hO.form
  have L1 := hide (hl1.ints (isB_wf (unhide HJB)))
  have O1 : Hid (Off g q1 R1.length) := hide (fun b o e hp => by have := (hf1 b o e hp).1; simp only [alloc_size6] at this; omega)
  have B1 := hide (bl_tr (al2p w _ _) hO.2)
  have X1 := hide (Box.below (Box.alloc (Box.new w #[.slice q L.length d, .pointer (some ⟨g, 0, none⟩)] 58) _) hO.2)
  have Y1 := hide (Box.below (Box.new (w.alloc (Obj.cells #[.slice q L.length d, .pointer (some ⟨g, 0, none⟩)] 58)) #[.slice none 0 0, .pointer none] 58) hO.2)
  simp only [alloc_size6] at Y1
  have l1 := (unhide Y1).lt
  have x1 := (unhide X1).cell
  clear hO hl1 hf1 C1
  go_wp2_with fail
  try rw [hD]
  refine (unhide C2 _ ((unhide HW).below (unhide B1))).mono ?_
  rintro e w2 ⟨rfl, hr⟩
  have r2 := (RE.below (unhide B1) (unhide HW)).trans hr
  rw [no_f3] at r2
  have R2' := hide r2
  have X2 := hide (hr.1.box (unhide X1) (by omega))
  have Y2 := hide (hr.1.box (unhide Y1) (by omega))
  have L2 := hide ((unhide L1).stay7 (unhide O1) hr.1)
  have x2 := (unhide X2).cell
  clear hr r2
  go_wp2_with fail
  refine (unhide C3 _ _ R1 _ ((unhide R2').wst (unhide HW)) (unhide L2) (by omega)).mono ?_
  rintro e w3 ⟨q3, d3, L3, rfl, hq⟩
  obtain ⟨h1, h2, h3, h4⟩ := unhide hq
  rw [unhide HFF] at h1 h3
  have H1 := hide h1
  have H2 := hide h2
  have R3' := hide ((unhide R2').trans h3)
  have Y3 := hide (h3.1.box (unhide Y2) (by omega))
  have y3 := (unhide Y3).cell
  have z3 := (unhide Y3).frozen
  have HMr : Hid (Off (w.heap.size + 1) q3 L3.length ∧ ∀ a ∈ L3, Off (w.heap.size + 1) a.q a.d.length) := hide (h4 _ (unhide Y2).lt)
  clear hq h1 h2 h3 h4 C3
  go_wp2_with fail
  have Y4 := hide ((unhide Y3).set2 (.slice q3 L3.length d3) (.pointer (some ⟨g, 0, none⟩)))
  refine bodyPost_ret ?_ rfl ⟨q3, d3, L3, rfl, hide ⟨unhide H1, ((MsIn.stay (g := w.heap.size + 1) ⟨(unhide H2).1, (unhide HMr).1, (unhide HMr).2, (unhide H2).2.2.2⟩ ((Stay.set _ _ _ _).trans (Stay.set _ _ _ _))).sw (unhide H2)), ((unhide R3').setNew (by omega) (by omega) _ _).setNew (by omega) (by omega) _ _⟩⟩
  simp [results, Tryz.results62, go_sem, (unhide Y4).cell]

set_option maxRecDepth 100000 in
set_option maxHeartbeats 2000000 in
theorem cflts_any (g : Nat) (q : Option Addr) (d : Nat) (L : List FA) (num : Int) (w : World) (hw : WstE g w) (h : MsIn g w q d L) :
    Calls Tryz.prog 229 #[msV q L.length d g, .int .i64 num] w fun e w' => ∃ v, e = .returned v ∧ Hid (OwnS 84 (Value.int .u32) w w' v (floatsP (L.map FA.f) num).1 ∧ RE g (floatsP (L.map FA.f) num).2 w w') := by
  obtain ⟨s1, s2, s3⟩ := h.small
  have C1 := hide (fun v (hv : Below w.heap.size w v) => cfixed6_any q d L num v (h.1.below hv) (by omega) (by omega))
  have HV : Hid (floatsP (L.map FA.f) num = ((listV fix1 (L.map FA.f) num).1, bad3 ((listV fix1 (L.map FA.f) num).2 != 0))) := hide rfl
  rw [unhide HV]
  clear HV
  generalize listV fix1 (L.map FA.f) num = R at C1 ⊢
  obtain ⟨R1, R2⟩ := R
  simp only at C1 ⊢
  have C2 := hide (fun v (hv : WstE g v) => cnote_bad g q L.length d (R2 != 0) v hv)
  obtain ⟨D, hD⟩ : ∃ D, (R2 != 0) = D := ⟨_, rfl⟩
  rw [hD] at C2 ⊢
  have HW := hide hw
  have gl := hw.lt
  clear hw h s3
  unfold msV at C2 ⊢
  go_enter Tryz.func229, Tryz.ntmps229
  go_wp2_with fail
  refine (unhide C1 _ (al1p _ _)).mono ?_
  rintro e w1 ⟨v1, rfl, hO⟩
  have B1 := hide (bl_tr (al1p w _) hO.2)
  have X1 := hide (Box.below (Box.new w #[.slice q L.length d, .pointer (some ⟨g, 0, none⟩)] 58) hO.2)
  have x1 := (unhide X1).cell
  have O1 := hide (ownsRow_base hO.1 (show w.heap.size ≤ _ by simp))
  clear hO C1
  go_wp2_with fail
  try rw [hD]
  refine (unhide C2 _ ((unhide HW).below (unhide B1))).mono ?_
  rintro e w2 ⟨rfl, hr⟩
  have r2 := (RE.below (unhide B1) (unhide HW)).trans hr
  rw [no_f3] at r2
  have R2' := hide r2
  have O2 := hide (ownsRow_stay (unhide O1) gl hr.1)
  clear hr r2
  go_wp2_with fail
  go_ret
  exact ⟨_, rfl, hide ⟨unhide O2, unhide R2'⟩⟩
set_option maxRecDepth 100000 in
theorem cint64_any (x : Int) (w : World) : Calls Tryz.prog 234 #[.int .u64 x] w fun e w' => e = .returned (.int .i64 (i64w x)) ∧ w' = w := by
  unfold i64w
  go_enter Tryz.func234, Tryz.ntmps234
  go_wp2_with fail
  go_ret
  exact ⟨by first | rfl | (rw [IntKind.wrap_i64]; rfl) | simp [wrap64, IntKind.wrap_i64], rfl⟩
def i64c (x : Int) : List Value := [.int .i64 x]
theorem i64Wd : Wd 1 i64c := ⟨by decide, fun _ => rfl, fun a u hu => by simp [i64c] at hu; subst hu; rfl⟩
theorem own_i64 {t : TypeId} {w w' : World} {v : Value} {l : List Int} (h : OwnR t 1 i64c w w' v l) : OwnG t (Value.int .i64) w w' v l := by
  obtain ⟨h1, h2⟩ := h
  rw [show l.flatMap i64c = l.map (Value.int .i64) from flat_one _ l] at h1
  exact ⟨h1, h2⟩
theorem Tryz.infoI64d : (Tryz.prog.info? 2).map (fun i => (i.zero, i.size, i.bytes)) = some (some (.int .i64 0), 1, 8) := by kernel_rfl
theorem Tryz.infoIntd : (Tryz.prog.info? 3).map (fun i => (i.zero, i.size, i.bytes)) = some (some (.int .i64 0), 1, 8) := by kernel_rfl

set_option maxRecDepth 100000 in
set_option maxHeartbeats 2000000 in
theorem cchint64_any (p : Option Addr) (c : Nat) (l : List Int) (w : World) (h : Ls (Value.int .u64) w p c l) (hs : l.length ≤ 100000000) :
    Calls Tryz.prog 233 #[.slice p l.length c, .func (.func 234) #[] #[]] w fun e w' => ∃ v, e = .returned v ∧ OwnG 2 (Value.int .i64) w w' v (l.map i64w) := by
  obtain ⟨i1, hi1, y1, z1, b1⟩ := info_parts Tryz.infoI64d
  have A1 := hide h
  have HC := hide (fun x v => cint64_any x v)
  clear h
  go_enter Tryz.func233, Tryz.ntmps233
  go_wp2_with (at_make; (refine wpList_make_full _ rfl _ _ 77 rfl w.heap.size 2 i1 (.int .i64 0) 1 Tryz.underlying77 hi1 y1 z1 _ _ _ _ l.length rfl rfl (by omega) (by omega) (by rw [b1]; omega) (by unfold maxLen; omega) (Nat.le_refl _) ?_; intro w1 hown hgrow; have HM := hide (Mrow.made i64Wd (0 : Int) rfl hown); have HB := hide ((Below.refl w.heap.size w).grown hgrow (Nat.le_refl _) (fun k hk => by cases hk)); clear hown hgrow))
  go_loopw [13] (fun iv wr => ∃ n : Nat, iv = .int .i64 n ∧ n ≤ l.length ∧ Hid (Mrow 2 i64c wr w.heap.size ((l.take n).map i64w ++ List.replicate (l.length - n) 0)) ∧ Hid (Below w.heap.size w wr)) (fun iv _ => l.length - (intOf iv).toNat)
  case atStart => exact ⟨0, rfl, by omega, hide (by rw [List.take_zero, List.map_nil, List.nil_append]; exact unhide HM), HB⟩
  case round =>
    obtain ⟨n, rfl, hn, M, B⟩ := hrel
    by_cases hlt : n < l.length
    · have hi : (n : Int) < (l.length : Int) := by omega
      obtain ⟨b, o, rfl, hb, hc⟩ := ((unhide A1).below (unhide B)).lies (by omega)
      have k1 : wr.cell? ⟨b, o + n, none⟩ = some (.int .u64 (l.getD n 0)) := hc n hlt
      obtain ⟨m, hm⟩ : ∃ m, l.length - n = m + 1 := ⟨l.length - n - 1, by omega⟩
      rw [hm] at M
      have tl : ((l.take n).map i64w).length = n := by rw [List.length_map, List.length_take]; omega
      have hl : ((l.take n).map i64w ++ List.replicate (m + 1) (0 : Int)).length = l.length := by rw [List.length_append, tl, List.length_replicate]; omega
      have M2 := hide (Mrow.set i64Wd (unhide M) (i64w (l.getD n 0)) (i := n) (by omega))
      have e1 : ((l.take n).map i64w ++ List.replicate (m + 1) (0 : Int)).set n (i64w (l.getD n 0)) = (l.take (n + 1)).map i64w ++ List.replicate m 0 := by
        have := set_mid ((l.take n).map i64w) m (0 : Int) (i64w (l.getD n 0))
        rw [tl] at this
        rw [this, map_take7 i64w 0 l n hlt]
      rw [e1, Nat.mul_one] at M2
      have c1 : wr.cell? ⟨w.heap.size, n, none⟩ = some (.int .i64 (((l.take n).map i64w ++ List.replicate (m + 1) (0 : Int)).getD n 0)) := by
        have := Mrow.at i64Wd (z := (0 : Int)) (unhide M) (i := n) (j := 0) (by omega) rfl
        simpa using this
      have f1 := (unhide M).frozen n
      have hs1 : w.heap.size < wr.heap.size := lt_of_block (unhide M)
      generalize ((l.take n).map i64w ++ List.replicate (m + 1) (0 : Int)).getD n 0 = c0 at c1
      have B2 := hide (setMany_below (i64c (i64w (l.getD n 0))) wr w.heap.size n (unhide B) (Nat.le_refl _))
      generalize l.getD n 0 = x at k1 M2 B2
      have HX := hide (unhide HC x wr)
      generalize i64w x = X at HX M2 B2
      clear e1 hl M hc tl
      go_wp2_with fail
      refine (unhide HX).mono ?_
      rintro e v ⟨rfl, hv⟩
      replace hv := hv.symm
      subst hv
      go_wp2_with fail
      go_roundw
      case rel => exact ⟨n + 1, by go_num, by omega, by rw [show l.length - (n + 1) = m by omega]; exact M2, B2⟩
      case measure => simp [intOf]; omega
    · have hi : ¬ (n : Int) < (l.length : Int) := by omega
      rw [List.take_of_length_le (by omega), show l.length - n = 0 by omega, List.replicate_zero, List.append_nil] at M
      have HO := hide (own_i64 (Mrow.own i64Wd (unhide M) (Nat.le_refl _) (by rw [List.length_map]; unfold maxLen; omega) (unhide B)))
      rw [List.length_map] at HO
      clear M
      go_wp2_with fail
      go_ret
      exact ⟨_, rfl, by first | exact unhide HO | (have h := unhide HO; rw [List.map_id] at h; exact h)⟩

set_option maxRecDepth 100000 in
theorem cint_any (x : Int) (w : World) : Calls Tryz.prog 182 #[.int .i64 x] w fun e w' => e = .returned (.int .i64 (id x)) ∧ w' = w := by
  go_enter Tryz.func182, Tryz.ntmps182
  go_wp2_with fail
  go_ret
  exact ⟨rfl, rfl⟩
set_option maxRecDepth 100000 in
set_option maxHeartbeats 2000000 in
theorem cchint_any (p : Option Addr) (c : Nat) (l : List Int) (w : World) (h : Ls (Value.int .i64) w p c l) (hs : l.length ≤ 100000000) :
    Calls Tryz.prog 180 #[.slice p l.length c, .func (.func 182) #[] #[]] w fun e w' => ∃ v, e = .returned v ∧ OwnG 3 (Value.int .i64) w w' v (l.map id) := by
  obtain ⟨i1, hi1, y1, z1, b1⟩ := info_parts Tryz.infoIntd
  have A1 := hide h
  have HC := hide (fun x v => cint_any x v)
  clear h
  go_enter Tryz.func180, Tryz.ntmps180
  go_wp2_with (at_make; (refine wpList_make_full _ rfl _ _ 41 rfl w.heap.size 3 i1 (.int .i64 0) 1 Tryz.underlying41 hi1 y1 z1 _ _ _ _ l.length rfl rfl (by omega) (by omega) (by rw [b1]; omega) (by unfold maxLen; omega) (Nat.le_refl _) ?_; intro w1 hown hgrow; have HM := hide (Mrow.made i64Wd (0 : Int) rfl hown); have HB := hide ((Below.refl w.heap.size w).grown hgrow (Nat.le_refl _) (fun k hk => by cases hk)); clear hown hgrow))
  go_loopw [13] (fun iv wr => ∃ n : Nat, iv = .int .i64 n ∧ n ≤ l.length ∧ Hid (Mrow 3 i64c wr w.heap.size ((l.take n).map id ++ List.replicate (l.length - n) 0)) ∧ Hid (Below w.heap.size w wr)) (fun iv _ => l.length - (intOf iv).toNat)
  case atStart => exact ⟨0, rfl, by omega, hide (by rw [List.take_zero, List.map_nil, List.nil_append]; exact unhide HM), HB⟩
  case round =>
    obtain ⟨n, rfl, hn, M, B⟩ := hrel
    by_cases hlt : n < l.length
    · have hi : (n : Int) < (l.length : Int) := by omega
      obtain ⟨b, o, rfl, hb, hc⟩ := ((unhide A1).below (unhide B)).lies (by omega)
      have k1 : wr.cell? ⟨b, o + n, none⟩ = some (.int .i64 (l.getD n 0)) := hc n hlt
      obtain ⟨m, hm⟩ : ∃ m, l.length - n = m + 1 := ⟨l.length - n - 1, by omega⟩
      rw [hm] at M
      have tl : ((l.take n).map id).length = n := by rw [List.length_map, List.length_take]; omega
      have hl : ((l.take n).map id ++ List.replicate (m + 1) (0 : Int)).length = l.length := by rw [List.length_append, tl, List.length_replicate]; omega
      have M2 := hide (Mrow.set i64Wd (unhide M) (id (l.getD n 0)) (i := n) (by omega))
      have e1 : ((l.take n).map id ++ List.replicate (m + 1) (0 : Int)).set n (id (l.getD n 0)) = (l.take (n + 1)).map id ++ List.replicate m 0 := by
        have := set_mid ((l.take n).map id) m (0 : Int) (id (l.getD n 0))
        rw [tl] at this
        rw [this, map_take7 id 0 l n hlt]
      rw [e1, Nat.mul_one] at M2
      have c1 : wr.cell? ⟨w.heap.size, n, none⟩ = some (.int .i64 (((l.take n).map id ++ List.replicate (m + 1) (0 : Int)).getD n 0)) := by
        have := Mrow.at i64Wd (z := (0 : Int)) (unhide M) (i := n) (j := 0) (by omega) rfl
        simpa using this
      have f1 := (unhide M).frozen n
      have hs1 : w.heap.size < wr.heap.size := lt_of_block (unhide M)
      generalize ((l.take n).map id ++ List.replicate (m + 1) (0 : Int)).getD n 0 = c0 at c1
      have B2 := hide (setMany_below (i64c (id (l.getD n 0))) wr w.heap.size n (unhide B) (Nat.le_refl _))
      generalize l.getD n 0 = x at k1 M2 B2
      have HX := hide (unhide HC x wr)
      generalize id x = X at HX M2 B2
      clear e1 hl M hc tl
      go_wp2_with fail
      refine (unhide HX).mono ?_
      rintro e v ⟨rfl, hv⟩
      replace hv := hv.symm
      subst hv
      go_wp2_with fail
      go_roundw
      case rel => exact ⟨n + 1, by go_num, by omega, by rw [show l.length - (n + 1) = m by omega]; exact M2, B2⟩
      case measure => simp [intOf]; omega
    · have hi : ¬ (n : Int) < (l.length : Int) := by omega
      rw [List.take_of_length_le (by omega), show l.length - n = 0 by omega, List.replicate_zero, List.append_nil] at M
      have HO := hide (own_i64 (Mrow.own i64Wd (unhide M) (Nat.le_refl _) (by rw [List.length_map]; unfold maxLen; omega) (unhide B)))
      rw [List.length_map] at HO
      clear M
      go_wp2_with fail
      go_ret
      exact ⟨_, rfl, by first | exact unhide HO | (have h := unhide HO; rw [List.map_id] at h; exact h)⟩

set_option maxRecDepth 100000 in
set_option maxHeartbeats 2000000 in
theorem cnums_any (g : Nat) (q : Option Addr) (d : Nat) (L : List FA) (num : Int) (w : World) (hw : WstE g w) (h : MsIn g w q d L) :
    Calls Tryz.prog 181 #[msV q L.length d g, .int .i64 num] w fun e w' => ∃ v, e = .returned v ∧ Hid (OwnS 2 (Value.int .i64) w w' v (intsP (L.map FA.f) num).1 ∧ RE g (intsP (L.map FA.f) num).2 w w') := by
  obtain ⟨s1, s2, s3⟩ := h.small
  have C1 := hide (fun v (hv : Below w.heap.size w v) => cints6_any q d L num v (h.1.below hv) (by omega) (by omega))
  have hll := list_len7 int1_len (L := L) (num := num)
  have HV : Hid (intsP (L.map FA.f) num = ((listV int1 (L.map FA.f) num).1.map i64w, bad3 ((listV int1 (L.map FA.f) num).2 != 0))) := hide rfl
  rw [unhide HV]
  clear HV
  generalize listV int1 (L.map FA.f) num = R at C1 hll ⊢
  obtain ⟨R1, R2⟩ := R
  simp only at C1 hll ⊢
  have C2 := hide (fun v (hv : WstE g v) => cnote_bad g q L.length d (R2 != 0) v hv)
  have C3 := hide (fun p c v hv => cchint64_any p c R1 v hv (by have := h.2.2.2; omega))
  obtain ⟨D, hD⟩ : ∃ D, (R2 != 0) = D := ⟨_, rfl⟩
  rw [hD] at C2 ⊢
  have HW := hide hw
  have gl := hw.lt
  clear hw h s3
  unfold msV at C2 ⊢
  go_enter Tryz.func181, Tryz.ntmps181
  go_wp2_with fail
  refine (unhide C1 _ (al1p _ _)).mono ?_
  rintro e w1 ⟨v1, rfl, hO⟩
  obtain ⟨q1, d1, rfl, hl1, hf1⟩ := hO.form
  have L1 := hide hl1
  have O1 : Hid (Off g q1 R1.length) := hide (fun b o e hp => by have := (hf1 b o e hp).1; simp only [alloc_size6] at this; omega)
  have B1 := hide (bl_tr (al1p w _) hO.2)
  have X1 := hide (Box.below (Box.new w #[.slice q L.length d, .pointer (some ⟨g, 0, none⟩)] 58) hO.2)
  have x1 := (unhide X1).cell
  clear hO hl1 hf1 C1
  go_wp2_with fail
  try rw [hD]
  refine (unhide C2 _ ((unhide HW).below (unhide B1))).mono ?_
  rintro e w2 ⟨rfl, hr⟩
  have r2 := (RE.below (unhide B1) (unhide HW)).trans hr
  rw [no_f3] at r2
  have R2' := hide r2
  have L2 := hide ((unhide L1).stay7 (unhide O1) hr.1)
  have s2' := r2.1.1.size
  clear hr r2
  go_wp2_with fail
  refine (unhide C3 _ _ _ (unhide L2)).mono ?_
  rintro e w3 ⟨v3, rfl, hO⟩
  have R3' := hide ((unhide R2').trans (RE.below hO.2 ((unhide R2').wst (unhide HW))))
  rw [f3_no] at R3'
  have O3 := hide (ownsRow_base hO.1 s2')
  clear hO
  go_wp2_with fail
  go_ret
  exact ⟨_, rfl, hide ⟨unhide O3, unhide R3'⟩⟩
set_option maxRecDepth 100000 in
set_option maxHeartbeats 2000000 in
theorem ccountm_any (g : Nat) (q : Option Addr) (n d : Nat) (p : Option Addr) (c : Nat) (ds : List Int) (w : World) (hw : WstE g w) (h : Ints .i64 w p c ds) :
    Calls Tryz.prog 183 #[msV q n d g, .slice p ds.length c] w fun e w' => e = .returned (.tuple #[.int .i64 (countV ds).1, .bool ((countV ds).2 == 0)]) ∧ RE g (dimsP ds).2 w w' := by
  have C1 := hide (fun v (hv : Below w.heap.size w v) => ccount_any p c ds v (h.below hv))
  have HV : Hid ((dimsP ds).2 = f3 (bad3 ((countV ds).2 == 1)) (big3 ((countV ds).2 == 8))) := hide rfl
  rw [unhide HV]
  clear HV
  generalize countV ds = R at C1 ⊢
  obtain ⟨R1, R2⟩ := R
  simp only at C1 ⊢
  have C2 := hide (fun v (hv : WstE g v) => cnote_bad g q n d (R2 == 1) v hv)
  have C3 := hide (fun v (hv : WstE g v) => cnote_big g q n d (R2 == 8) v hv)
  obtain ⟨D1, hD1⟩ : ∃ D, (R2 == 1) = D := ⟨_, rfl⟩
  rw [hD1] at C2 ⊢
  obtain ⟨D2, hD2⟩ : ∃ D, (R2 == 8) = D := ⟨_, rfl⟩
  rw [hD2] at C3 ⊢
  have HW := hide hw
  have gl := hw.lt
  clear hw h
  unfold msV at C2 C3 ⊢
  go_enter Tryz.func183, Tryz.ntmps183
  go_wp2_with fail
  refine (unhide C1 _ (al1p _ _)).mono ?_
  rintro e v ⟨rfl, hv⟩
  replace hv := hv.symm
  subst hv
  go_wp2_with fail
  try rw [hD1]
  refine (unhide C2 _ ((unhide HW).below (al1p _ _))).mono ?_
  rintro e w2 ⟨rfl, hr⟩
  have r2 := (RE.below (al1p w _) (unhide HW)).trans hr
  rw [no_f3] at r2
  have R2' := hide r2
  have x2 := (hr.1.box (Box.new w #[.slice q n d, .pointer (some ⟨g, 0, none⟩)] 58) (by omega)).cell
  clear hr r2
  go_wp2_with fail
  try rw [hD2]
  refine (unhide C3 _ ((unhide R2').wst (unhide HW))).mono ?_
  rintro e w3 ⟨rfl, hr⟩
  have R3' := hide ((unhide R2').trans hr)
  clear hr
  go_wp2_with fail
  go_ret2
  exact ⟨rfl, unhide R3'⟩

end Go.Proofs.YtkjlhmojdffooaaGreat
