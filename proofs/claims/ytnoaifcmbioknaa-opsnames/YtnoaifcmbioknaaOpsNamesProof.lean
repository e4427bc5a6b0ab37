import Derived.Test.YtnoaifcmbioknaaRows
import Derived.WalkKit
import Derived.ProofKit
import Derived.OpenShut
import Derived.Below
import Derived.Carry
import Derived.Test.YtnoaifcmbioknaaV47
import Derived.Test.YtnoaifcmbioknaaV49

/- For all numbers and names: the code's names, numbers, arities and attributes are what the document says; no condition. -/
namespace Go.Proofs.Ytnoaifcmbioknaa.opsNames
open Go.ChangeShapes Go.WideShapes Go.ChangeAt Go.RowKit
set_option linter.unusedVariables false

theorem own : ownKnob Try.prog.godebug = none := by kernel_rfl
theorem laidOut : laidOutB Try.prog = true := by kernel_rfl

theorem nm_back : ∀ op : Int, (rowT op).1 = [] ∨ numT (rowT op).1 = op := by
  have h : (List.range 80).all (fun k => decide (numT (rowT ((k : Int) + 1)).1 = (k : Int) + 1)) = true := by kernel_rfl
  intro op
  by_cases h0 : 1 ≤ op ∧ op ≤ 80
  · have := List.all_eq_true.1 h (op - 1).toNat (List.mem_range.2 (by omega))
    rw [show (((op - 1).toNat : Nat) : Int) + 1 = op by omega] at this
    exact .inr (of_decide_eq_true this)
  · exact .inl (by unfold rowT; rw [if_neg h0]; rfl)
set_option maxRecDepth 100000 in
set_option maxHeartbeats 4000000 in
/-- The statement's call returns true, whatever came in. -/
theorem walk (a0 : Int) (S1 : Str) (W : World) (w0 : (Lit.int .i64 a0).wf = true) (s1 : isB S1) :
    Calls Try.prog 3 #[.int .i64 a0, strV S1] W fun e W' => e = .returned (.bool true) ∧ Below W.heap.size W W' := by
  have CA := hide (carity8_any a0)
  have RA := hide (rarity8_any a0)
  have CT := hide (cattrs8_any a0)
  have RR := hide (rrows8_any a0)
  have CN := hide (cname8_any a0)
  have RN := hide (rname8_any a0)
  have CM := hide (fun w => cnumber8_any S1 w s1)
  have RM := hide (fun w => rnumber8_any S1 w s1)
  have CB := hide (fun w => cnumber8_any (rowT a0).1 w (rowT_isB a0).1)
  have HB := hide (nm_back a0)
  have HL := hide (rowsR_names a0)
  have HI := hide (rowT_isB a0).1
  have ln : Hid ((rowsR a0).length = ((rowT a0).2.2.2.2.2.map fun a => a.1).length) := hide (by rw [← rowsR_names]; simp)
  have l6 := rowsR_len a0
  clear w0 s1
  generalize (rowT a0).2.1 = A at CA RA
  generalize (rowT a0).2.2.1 = B at CA RA
  generalize (rowT a0).2.2.2.1 = C at CA RA
  generalize (rowT a0).2.2.2.2.1 = D at CA RA
  generalize (rowT a0).1 = nm at CN RN CB HB HI
  generalize ((rowT a0).2.2.2.2.2.map fun a => a.1) = ns at CT HL ln
  generalize numT S1 = q at CM RM
  generalize numT nm = z at CB HB
  generalize rowsR a0 = rs at RR HL ln l6
  unfold strV at CN RN CM RM CB ⊢
  go_enter Try.func3, Try.ntmps3
  go_wp2_with fail
  refine (awake8_any _).mono ?_
  rintro e w1 ⟨rfl, hb⟩
  have BB := hide hb
  clear hb
  go_wp2_with fail
  refine (uh CA _).mono ?_
  rintro e w2 ⟨rfl, hb⟩
  replace BB := hide (bl_tr (uh BB) hb)
  clear hb CA
  go_wp2_with fail
  refine (uh RA _).mono ?_
  rintro e w3 ⟨rfl, hb⟩
  replace BB := hide (bl_tr (uh BB) hb)
  clear hb RA
  go_wp2_with fail
  refine (uh CT _).mono ?_
  rintro e w4 ⟨v4, rfl, ho⟩
  obtain ⟨p, c, rfl, hr, _⟩ := ho.form (z := []) strWd8
  have RT := hide hr
  replace BB := hide (bl_tr (uh BB) ho.2)
  clear ho hr CT
  go_wp2_with fail
  refine (uh RR _).mono ?_
  rintro e w5 ⟨p5, c5, rfl, hr, hb⟩
  have R5 := hide hr
  replace RT := hide ((uh RT).below hb)
  replace BB := hide (bl_tr (uh BB) hb)
  clear hb hr RR
  have tl : ((ns.length : Int) != (rs.length : Int)) = false := bneFp (by have := uh ln; omega)
  have ta : (A != A) = false := bneFp rfl
  have tb : (B != B) = false := bneFp rfl
  have tc : (C != C) = false := bneFp rfl
  have td : (D != D) = false := bneFp rfl
  have tq : (q != q) = false := bneFp rfl
  have tn : ((strOfNums nm).toList == (strOfNums nm).toList) = true := by simp
  go_wp2_with fail
  refine (uh CN _).mono ?_
  rintro e w6 ⟨rfl, hb⟩
  replace BB := hide (bl_tr (uh BB) hb)
  replace RT := hide ((uh RT).below hb)
  replace R5 := hide ((uh R5).below hb)
  clear hb
  go_wp2_with fail
  refine (uh RN _).mono ?_
  rintro e w7 ⟨rfl, hb⟩
  replace BB := hide (bl_tr (uh BB) hb)
  replace RT := hide ((uh RT).below hb)
  replace R5 := hide ((uh R5).below hb)
  clear hb RN
  go_wp2_with fail
  refine (uh CM _).mono ?_
  rintro e w8 ⟨rfl, hb⟩
  replace BB := hide (bl_tr (uh BB) hb)
  replace RT := hide ((uh RT).below hb)
  replace R5 := hide ((uh R5).below hb)
  clear hb CM
  go_wp2_with fail
  refine (uh RM _).mono ?_
  rintro e w9 ⟨rfl, hb⟩
  replace BB := hide (bl_tr (uh BB) hb)
  replace RT := hide ((uh RT).below hb)
  replace R5 := hide ((uh R5).below hb)
  clear hb RM
  go_wp2_with fail
  clear tl ta tb tc td tq tn
  have l6n : ns.length ≤ 6 := by have := uh ln; omega
  go_loopw [16] (fun iv wr => ∃ n : Nat, iv = .int .i64 n ∧ n ≤ ns.length ∧ ∃ m, wr = w9.drewN m) (fun iv _ => ns.length - (intOf iv).toNat)
  case atStart => exact ⟨0, rfl, by omega, 0, rfl⟩
  case round =>
    obtain ⟨n, rfl, hn, m, rfl⟩ := hrel
    by_cases hlt : n < ns.length
    · have hi : (n : Int) < (ns.length : Int) := by omega
      have hlr : n < rs.length := by rw [uh ln]; exact hlt
      have hi2 : (n : Int) < (rs.length : Int) := by omega
      obtain ⟨b, o, rfl, hb, hc⟩ := (uh RT).lies (by omega)
      obtain ⟨b', o', rfl, hb', hc'⟩ := (uh R5).lies (by omega)
      have k0 : w9.cell? ⟨b, o + n, none⟩ = some (strV (ns.getD n [])) := by have := hc n hlt 0 _ rfl; simpa using this
      have k1 : w9.cell? ⟨b', o' + n * 3, none⟩ = some (strV (rs.getD n ([], [], false)).1) := by have := hc' n hlr 0 _ rfl; simpa using this
      have e1 : (rs.getD n ([], [], false)).1 = ns.getD n [] := by
        rw [← uh HL]
        simp only [List.getD_eq_getElem?_getD, List.getElem?_map, List.getElem?_eq_getElem hlr]
        rfl
      rw [e1] at k1
      generalize ns.getD n [] = s at k0 k1
      unfold strV at k0 k1
      have ts : ((strOfNums s).toList == (strOfNums s).toList) = true := by simp
      clear hc hc' e1 hlr
      go_wp2_with fail
      go_quiet (fail)
      go_wp2_with fail
      go_roundw
      case rel => exact ⟨n + 1, by go_num, by omega, _, rfl⟩
      case measure => simp [intOf]; omega
    · have hi : ¬ (n : Int) < (ns.length : Int) := by omega
      go_wp2_with fail
      refine (uh CN _).mono ?_
      rintro e w10 ⟨rfl, hb⟩
      replace BB := hide (bl_tr (bw_drew (uh BB) m) hb)
      clear hb CN
      have hz : nm = [] ∨ z = a0 := uh HB
      by_cases h0 : nm = []
      · have te : (strOfNums nm).toList.isEmpty = true := by rw [h0, str_list8]; rfl
        clear hz h0
        go_wp2_with fail
        go_ret
        exact ⟨rfl, uh BB⟩
      · have te : (strOfNums nm).toList.isEmpty = false := by
          rw [str_list8]
          cases nm with
          | nil => exact absurd rfl h0
          | cons x r => rfl
        obtain rfl := hz.resolve_left h0
        have tz : (z == z) = true := by simp
        clear hz h0
        go_wp2_with fail
        refine (uh CB _).mono ?_
        rintro e w11 ⟨rfl, hb⟩
        replace BB := hide (bl_tr (uh BB) hb)
        clear hb
        go_wp2_with fail
        go_ret
        exact ⟨rfl, uh BB⟩

set_option maxRecDepth 100000 in
theorem contract (H : Type) (enc : TypeId × Value → H) (W : World) (base : Nat) (args : Array Value) (ds gs : List (DataW H)) (before : List MemPlace)
    (hval0 : ∀ (j : Nat) t v, Try.f3.params[j]? = some t → args[j]? = some v → Value.okWide Try.prog W .any base t v)
    (hW : DataW.Whole enc Try.prog Try.f3.params.toList Rows.opsNamesSpec.vars false W args.toList ds gs before) :
    Calls Try.prog 3 args W fun e W' => ∃ v, e = .returned v ∧ Rows.opsNamesSpec.post enc Try.prog Try.f3 false true false false W args v W' := by
  have hval : ∀ (j : Nat) t v, Try.f3.params[j]? = some t → args[j]? = some v → Value.okWide Try.prog W .any base t v := hval0
  have hW' := hW
  obtain ⟨p, q, hA0, hV, rfl, hfz, hnd⟩ := hW
  have hA : DataW.TrodAll enc Try.prog W 0 (fun _ => true) true Try.f3.params.toList args.toList ds p := hA0
  rw [Try.params3] at hA hval
  obtain ⟨v0, vs0, d0, ds0, pl0, q0, hargs, rfl, rfl, h0, r0⟩ := trodAll_cons hA
  obtain ⟨v1, vs1, d1, ds1, pl1, q1, rfl, rfl, rfl, h1, r1⟩ := trodAll_cons r0
  obtain ⟨rfl, rfl, rfl⟩ := trodAll_nil r1
  obtain rfl : args = #[v0, v1] := by cases args; simp_all
  obtain ⟨rfl, rfl⟩ := trodVars_none hV
  have h1k := h1
  obtain ⟨S1, rfl, s1⟩ := str8_open (hval 1 9 v1 rfl rfl) h1
  have hlt1 : ∀ y ∈ pl1, y.block < W.heap.size := fun y hy => hW'.lt y (by simp [hy])
  obtain ⟨a0, rfl, rfl, rfl, w0⟩ := open_int Try.underlying3 (hval 0 3 v0 rfl rfl) h0
  clear hA0 hval0
  simp only [List.append_nil] at hW'
  refine (walk a0 S1 W w0 s1).mono fun e W' ⟨he, bel⟩ => ?_
  subst he
  exact ⟨_, rfl, _, _, _, [], _, [], hW', trodAll_mk1 (shut_bool Try.underlying4 _), (trodAll_cons_mk (shut_int Try.underlying3 w0) (trodAll_cons_mk (Below.trod laidOut (by kernel_rfl) (of_decide_eq_true (by kernel_rfl)) h1k bel hlt1) trodAll_mk0)), rfl, bel.frame _, fun h => by cases h⟩

set_option maxRecDepth 100000 in
theorem lifted (os : Os) (started : os.Started) (H : Type) (enc : TypeId × Value → H) :
    ReturnsInHanded {} Try.checked os 3 .any (Rows.opsNamesSpec.pre6 enc Try.prog Try.f3 Rows.opsNamesRow.domain false) (Rows.opsNamesSpec.post enc Try.prog Try.f3 false true false false) := by
  refine returnsInHanded_of_change (C := Try.checked) own started (by kernel_rfl) Try.func3
    (ChangeSpec.witness6 (enc := enc) (C := Try.checked) false ⟨#[], #[.int .i64 0, .string { data := #[] }], []⟩ 8 (by kernel_rfl) (by kernel_rfl) (by kernel_rfl) (by kernel_rfl)) ?_
  intro W base args ds gs before hval hW hcnd _
  exact contract H enc W base args ds gs before hval hW

theorem proved : Rows.OpsNamesSaid :=
  OpenClaim.holds_of_wide 3 Try.f3 rfl rfl rfl rfl rfl rfl rfl ⟨rfl, rfl, rfl, rfl, rfl⟩ rfl rfl rfl rfl rfl (by kernel_rfl) Try.func3 (by kernel_rfl)
    (of_decide_eq_true (by kernel_rfl)) (by unfold Func.isWrapper; first | (rw [if_pos (by decide +kernel)]; kernel_rfl) | (rw [if_neg (by decide +kernel)]; exact ⟨rfl, rfl⟩))
    (fun os started H enc _ => lifted os started H enc)
#print axioms proved
end Go.Proofs.Ytnoaifcmbioknaa.opsNames
