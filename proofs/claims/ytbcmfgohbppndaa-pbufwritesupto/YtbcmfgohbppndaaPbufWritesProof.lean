/- For all fields (together at most 1048576 values): what the code writes of them, or why it writes none, is what the document says. -/
import Derived.Test.YtbcmfgohbppndaaRows
import Derived.WalkKit
import Derived.ProofKit
import Derived.OpenShut
import Derived.Below
import Derived.Carry
import Derived.JoinedCond
import Derived.Test.YtbcmfgohbppndaaLN
import Derived.Test.YtbcmfgohbppndaaKN
import Derived.Test.YtbcmfgohbppndaaKQ
namespace Go.Proofs.Ytbcmfgohbppndaa.pbufWrites
open Go.ChangeShapes Go.WideShapes Go.ChangeAt Go.RowKit
set_option linter.unusedVariables false

theorem own : ownKnob Try.prog.godebug = none := by kernel_rfl
theorem laidOut : laidOutB Try.prog = true := by kernel_rfl

set_option maxRecDepth 100000 in
set_option maxHeartbeats 4000000 in
/-- The statement's call returns true, whatever came in. -/
theorem walk (p0 : Option Addr) (c0 : Nat) (L0 : List FA) (W : World) (s0 : Fls W p0 c0 L0) (u0 : sumD L0 + L0.length ≤ 1048576) :
    Calls Try.prog 6 #[.slice p0 L0.length c0] W fun e W' => e = .returned (.bool true) ∧ Below W.heap.size W W' := by
  have S0 := hide s0
  have hd : ∀ a ∈ L0, a.d.length ≤ 140737488355328 := fun a ha => by have := sumD_mem ha; omega
  have WR := hide (fun w h => cwrite_any p0 c0 L0 w h hd)
  have PL := hide (fun w h => plain6_any p0 c0 L0 w h (by omega))
  have RW := hide (fun q d w h => rwrite_any q d L0 w h (by omega))
  have hwb : isB (writeV (L0.map FA.f)).1 := write_isB (fun f hf => by
    obtain ⟨a, ha, rfl⟩ := List.mem_map.1 hf
    exact ⟨(s0.2 a ha).ok, by have := hd a ha; simp only [FA.f]; omega⟩)
  generalize writeV (L0.map FA.f) = R at WR RW hwb
  obtain ⟨R1, R2⟩ := R
  simp only at WR RW hwb
  have HWB := hide hwb
  clear s0 hwb hd
  go_enter Try.func6, Try.ntmps6
  go_wp2_with fail
  refine (awake6_any _).mono ?_
  rintro e w1 ⟨rfl, hb⟩
  have B := hide hb
  clear hb
  go_wp2_with fail
  refine (unhide WR _ ((unhide S0).below (unhide B))).mono ?_
  rintro e w2 ⟨v2, rfl, hO⟩
  obtain ⟨q2, d2, rfl, hl2, _⟩ := hO.form
  have I1 := hide (hl2.ints (isB_wf (unhide HWB)))
  replace B := hide (bl_tr (unhide B) hO.2)
  clear hO hl2 WR
  go_wp2_with fail
  refine (unhide PL _ ((unhide S0).below (unhide B))).mono ?_
  rintro e w3 ⟨v3, rfl, hO⟩
  obtain ⟨q3, d3, rfl, hl3, _⟩ := hO.form
  have F3 : Hid (Fls w3 q3 d3 L0) := hide ⟨hl3, fun a ha => ((unhide S0).below (bl_tr (unhide B) hO.2)).2 a ha⟩
  replace I1 := hide ((unhide I1).below hO.2)
  replace B := hide (bl_tr (unhide B) hO.2)
  clear hO hl3 PL
  go_wp2_with fail
  refine (unhide RW _ _ _ (unhide F3)).mono ?_
  rintro e w4 ⟨⟨q4, d4, rfl, hI⟩, hb⟩
  have SB := hide (rsameb_any q2 q4 d2 d4 R1 R1 w4 ((unhide I1).below hb) hI)
  replace B := hide (bl_tr (unhide B) hb)
  clear hI hb RW I1 F3
  go_wp2_with fail
  refine (unhide SB).mono ?_
  rintro e w5 ⟨rfl, hb⟩
  replace B := hide (bl_tr (unhide B) hb)
  clear hb SB
  simp only [decide_true]
  go_wp2_with fail
  go_ret
  exact ⟨rfl, unhide B⟩

/-- A part's bulk is at most the whole's. -/
theorem bulk_part {H : Type} {d : DataW H} : ∀ {l : List (DataW H)}, d ∈ l → Rows.uptoBulk d ≤ Rows.uptoBulkAll l
  | [], h => by cases h
  | x :: r, h => by
    simp only [Rows.uptoBulkAll]
    rcases List.mem_cons.1 h with e | e
    · subst e; omega
    · have := bulk_part e; omega
theorem bulk_lits {H : Type} (k : IntKind) : ∀ l : List Int, l.length ≤ Rows.uptoBulkAll (H := H) (lits k l)
  | [] => by simp
  | x :: r => by
    have := bulk_lits (H := H) k r
    simp only [lits, List.map_cons, Rows.uptoBulkAll, Rows.uptoBulk, List.length_cons] at *
    omega
theorem bulk_cap {H : Type} {k : IntKind} {d : DataW H} {cap : Nat} {xs : List Int} (h : d = .nil ∧ cap = 0 ∨ ∃ sp : List Int, d = .slice (lits k xs) (lits k sp) ∧ xs.length + sp.length = cap) : cap ≤ Rows.uptoBulk d := by
  rcases h with ⟨rfl, rfl⟩ | ⟨sp, rfl, e⟩
  · omega
  · have h1 := bulk_lits (H := H) k xs
    have h2 := bulk_lits (H := H) k sp
    simp only [Rows.uptoBulk]
    omega

set_option maxRecDepth 100000 in
theorem contract (H : Type) (enc : TypeId × Value → H) (W : World) (base : Nat) (args : Array Value) (ds gs : List (DataW H)) (before : List MemPlace)
    (hval0 : ∀ (j : Nat) t v, Try.f6.params[j]? = some t → args[j]? = some v → Value.okWide Try.prog W .any base t v)
    (hW : DataW.Whole enc Try.prog Try.f6.params.toList Rows.pbufWritesSpec.vars false W args.toList ds gs before) (hk : Rows.uptoSmall H (ds ++ gs) = true) :
    Calls Try.prog 6 args W fun e W' => ∃ v, e = .returned v ∧ Rows.pbufWritesSpec.post enc Try.prog Try.f6 false true false false W args v W' := by
  have hval : ∀ (j : Nat) t v, Try.f6.params[j]? = some t → args[j]? = some v → Value.okWide Try.prog W .any base t v := hval0
  have hW' := hW
  obtain ⟨p, q, hA0, hV, rfl, hfz, hnd⟩ := hW
  have hA : DataW.TrodAll enc Try.prog W 0 (fun _ => true) true Try.f6.params.toList args.toList ds p := hA0
  rw [Try.params6] at hA hval
  obtain ⟨v0, vs0, d0, ds0, pl0, q0, hargs, rfl, rfl, h0, r0⟩ := trodAll_cons hA
  obtain ⟨rfl, rfl, rfl⟩ := trodAll_nil r0
  obtain rfl : args = #[v0] := by cases args; simp_all
  obtain ⟨rfl, rfl⟩ := trodVars_none hV
  have h0k := h0
  obtain ⟨p0, c0, L0, rfl, s0, hd0⟩ := flds_open (hval 0 32 v0 rfl rfl) h0
  have hlt0 : ∀ y ∈ pl0, y.block < W.heap.size := fun y hy => hW'.lt y (by simp [hy])
  have u0 : sumD L0 + L0.length ≤ 1048576 := by
    have h1 := bulk_flds s0 hd0
    have h2 : Rows.uptoBulkAll ([d0] ++ []) ≤ 1048576 := of_decide_eq_true hk
    have h3 : Rows.uptoBulk d0 ≤ Rows.uptoBulkAll ([d0] ++ []) := bulk_part (by simp)
    exact Nat.le_trans h1 (Nat.le_trans h3 h2)
  clear hA0 hval0
  simp only [List.append_nil] at hW'
  refine (walk p0 c0 L0 W s0 u0).mono fun e W' ⟨he, bel⟩ => ?_
  subst he
  exact ⟨_, rfl, _, _, _, [], _, [], hW', trodAll_mk1 (shut_bool Try.underlying4 _), (trodAll_cons_mk (Below.trod laidOut (by kernel_rfl) (of_decide_eq_true (by kernel_rfl)) h0k bel hlt0) trodAll_mk0), rfl, bel.frame _, fun h => by cases h⟩

set_option maxRecDepth 100000 in
theorem lifted (os : Os) (started : os.Started) (H : Type) (enc : TypeId × Value → H) (F : Stop.Interp) :
    ReturnsInHanded {} Try.checked os 6 .any ((Rows.OpenSpec.upto Rows.pbufWritesSpec).pre6 enc Try.prog Try.f6 Rows.pbufWritesUptoRow.domain false) (((Rows.OpenSpec.upto Rows.pbufWritesSpec).at F).post enc Try.prog Try.f6 false true false false) := by
  refine returnsInHanded_of_cond (C := Try.checked) (s := Rows.OpenSpec.upto Rows.pbufWritesSpec) (k := Rows.uptoSmall) rfl own started (by kernel_rfl) Try.func6
    (OpenSpec.witness (enc := enc) (C := Try.checked) (s := Rows.OpenSpec.upto Rows.pbufWritesSpec) (k := Rows.uptoSmall) rfl false ⟨#[], #[.slice none 0 0], []⟩ 8 (by kernel_rfl) (by kernel_rfl) (by kernel_rfl)
      (x := ([.nil], [], [])) (by kernel_rfl) rfl (by kernel_rfl)) ?_
  intro W base args ds gs before hval hW _ hk _
  exact contract H enc W base args ds gs before hval hW hk

theorem proved : Rows.PbufWritesUptoSaid :=
  OpenClaim.holds_of_cond 6 Try.f6 rfl rfl rfl rfl rfl rfl rfl ⟨rfl, rfl, rfl, rfl, rfl⟩ rfl rfl rfl rfl rfl (by kernel_rfl) Try.func6 (by kernel_rfl)
    (of_decide_eq_true (by kernel_rfl)) (by unfold Func.isWrapper; first | (rw [if_pos (by decide +kernel)]; kernel_rfl) | (rw [if_neg (by decide +kernel)]; exact ⟨rfl, rfl⟩))
    (fun os started H enc _ F => lifted os started H enc F)
#print axioms proved
end Go.Proofs.Ytbcmfgohbppndaa.pbufWrites
