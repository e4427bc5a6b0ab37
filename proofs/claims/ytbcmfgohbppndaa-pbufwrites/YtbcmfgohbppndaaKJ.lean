import Derived.Test.YtbcmfgohbppndaaKI

/-
  Layer 6: the document's Write.
-/
namespace Go.Proofs.Ytbcmfgohbppndaa
open Go.RowKit
set_option linter.unusedVariables false

/-- 'append(own, xs...)': what else there is stays. -/
theorem wpList_append_lsG {α : Type} [Inhabited α] {f : α → Value} {P : Program} {w : World} {ops : Array Oper} {rest : List Oper} {o : Oper} {a : Act} {Q : Exit → Act → World → Prop} (hgd : o.guard = none) (s x : Operand) (t : TypeId)
    (ho : o.op = .call { callee := .builtin .append, args := #[s, x], argTypes := #[t, t] })
    (w0 : World) (e : TypeId) (i : TypeInfo) (z : Value) (bytes : Nat) (ht : P.underlying t = some (.slice e)) (hi : P.info? e = some i) (hz : i.zero = some z)
    (hsize : i.size = 1) (hby : i.bytes = bytes) (hzs : z.cells.size = 1) (hf : ∀ y, (f y).oneCell' = true)
    (v : Value) (os : List α) (hs : a.eval s = v) (hown : OwnG e f w0 w v os)
    (p : Option Addr) (c : Nat) (xs : List α) (hx : a.eval x = .slice p xs.length c) (hl : Ls f w p c xs)
    (h63 : os.length + xs.length ≤ maxLen) (hbytes : (os.length + xs.length) * bytes ≤ 140737488355328)
    (h : ∀ v' w', OwnG e f w0 w' v' (os ++ xs) → w.grownBy w' v.ownBlock → wpList P ops Q rest (a.put o.dst v') w') : wpList P ops Q (o :: rest) a w := by
  cases p with
  | none =>
    have hx0 : xs = [] := by
      rcases Nat.eq_zero_or_pos xs.length with g | g
      · exact List.eq_nil_of_length_eq_zero g
      · obtain ⟨b, o, e, _⟩ := hl.lies g; cases e
    subst hx0
    have hc0 : c = 0 := hl.2.2.2 rfl
    subst hc0
    refine wpList_append_own_none hgd s x t ho w0.heap.size e i 1 ht hi v _ _ hs hown.1 hx (h v w ?_ ⟨rfl, rfl, rfl, Nat.le_refl _, fun _ _ _ => rfl⟩)
    rw [List.append_nil]; exact hown
  | some ad =>
    have hcells : ∀ j u, (xs.map f)[j]? = some u → w.cell? (ad.add j) = some u := by
      rcases Nat.eq_zero_or_pos xs.length with g | g
      · have : xs = [] := List.eq_nil_of_length_eq_zero g
        subst this
        intro j u hj; simp at hj
      · obtain ⟨b, o, e, hb, hc⟩ := hl.lies g
        simp only [Option.some.injEq] at e
        subst e; exact lsMap_cells hc
    refine wpList_append_own w hgd s x t ho w0.heap.size e i z 1 bytes ht hi hz hsize hby hzs (by decide) v os.length (os.map f) hs hown.1 ad xs.length c (xs.map f) hx (by simp) hcells ?_ h63 hbytes hown.2.size ?_
    · intro u hu
      obtain ⟨y, _, rfl⟩ := List.mem_map.1 hu
      exact hf y
    · intro v' w' h1 h2 _
      refine h v' w' ⟨by rw [List.length_append, List.map_append]; exact h1, ?_⟩ h2
      exact hown.2.grown h2 hown.2.size (fun k hk => (hown.1.lt k hk).1)
/-- A box of another type is none of the rows that grow. -/
theorem Box.grown {α : Type} {f : α → Value} {w w0 w' : World} {g : Nat} {cs : Array Value} {t e : TypeId} {v : Value} {os : List α} (h : Box w g cs t) (ho : OwnG e f w0 w v os) (hne : ¬ e = t) (hg : w.grownBy w' v.ownBlock) : Box w' g cs t := by
  have hlt := h.lt
  refine (hg.block g hlt (fun e2 => ?_)).trans h
  rcases ho.1.2 with ⟨hv, _⟩ | ⟨k, cap, cur, hv, _, hh, _⟩
  · rw [hv] at e2; cases e2
  · rw [hv] at e2
    simp only [Value.ownBlock, Option.some.injEq] at e2
    subst e2
    unfold Box at h
    rw [h] at hh
    simp only [Option.some.injEq, Obj.cells.injEq] at hh
    exact hne hh.2.1.symm
def mpre (l : List FA) (n : Nat) : List Int := msgB ((l.take n).map FA.f)
theorem msg_take {l : List FA} (n : Nat) : (mpre l n).length ≤ (msgB (l.map FA.f)).length := by
  have e : l.map FA.f = (l.take n).map FA.f ++ (l.drop n).map FA.f := by rw [← List.map_append, List.take_append_drop]
  rw [e]
  unfold mpre msgB
  rw [List.flatMap_append, List.length_append]
  omega
theorem msg_step {l : List FA} {n : Nat} (h : n < l.length) : mpre l (n + 1) = mpre l n ++ fieldB (l.getD n noFA).f := by
  unfold mpre
  rw [take_addF l n h]
  simp [msgB]
theorem msg_all {l : List FA} {n : Nat} (h : l.length ≤ n) : mpre l n = msgB (l.map FA.f) := by unfold mpre; rw [List.take_of_length_le h]
theorem sumD_mem {l : List FA} {a : FA} (h : a ∈ l) : a.d.length ≤ sumD l := by
  obtain ⟨x, y, rfl⟩ := List.append_of_mem h
  rw [sumD_append]
  simp [sumD]
  omega
theorem fieldB_isB {f : Fld} (hm : mayF f) (ho : okF f) (hl : f.2.2.2.length < 18446744073709551616) : isB (fieldB f) := by
  obtain ⟨num, wire, x, d⟩ := f
  obtain ⟨m1, m2, m3⟩ := hm
  obtain ⟨o1, o2, o3⟩ := ho
  simp only at m1 m2 m3 o1 o2 o3 hl
  unfold fieldB bodyB
  refine isB_append (varV_range (by simp only; omega) (by simp only; omega)) ?_
  simp only
  split
  · exact varV_range o1 o2
  · split
    · exact fxL_isB _ _
    · split
      · exact fxL_isB _ _
      · exact isB_append (varV_range (by omega) (by omega)) o3
set_option maxRecDepth 100000 in
set_option maxHeartbeats 8000000 in
theorem rwrite_any (p : Option Addr) (c : Nat) (l : List FA) (w : World) (h : Fls w p c l) (hd : sumD l ≤ 140737480000000) :
    Calls Try.prog 21 #[.slice p l.length c] w fun e w' => (∃ q d, e = .returned (.tuple #[.slice q (writeV (l.map FA.f)).1.length d, .int .i64 (writeV (l.map FA.f)).2]) ∧ Ints .u8 w' q d (writeV (l.map FA.f)).1) ∧ Below w.heap.size w w' := by
  obtain ⟨i1, hi1, y1, z1, b1⟩ := info_parts Try.infoU8
  have A1 := hide h.1
  have AI := hide h.2
  have nl := h.1.len
  have HV : Hid (∀ R, writeV (l.map FA.f) = R → R = if (l.map FA.f).all mayB = false then ([], 1) else if 4194304 < (msgB (l.map FA.f)).length then ([], 8) else (msgB (l.map FA.f), 0)) := hide (fun R hR => by rw [← hR]; rfl)
  generalize hR : writeV (l.map FA.f) = R
  replace HV := hide (unhide HV R hR)
  clear hR h
  obtain ⟨R1, R2⟩ := R
  simp only
  go_enter Try.func21, Try.ntmps21
  go_wp2_with fail
  go_loopw [4] (fun iv wr => ∃ n : Nat, iv = .int .i64 n ∧ n ≤ l.length ∧ Hid (∀ i, i < n → mayB (l.getD i noFA).f = true) ∧ Hid (Below w.heap.size w wr)) (fun iv _ => l.length - (intOf iv).toNat)
  case atStart => exact ⟨0, rfl, by omega, hide (fun i hi => by omega), hide (Below.refl _ _)⟩
  case round =>
    obtain ⟨n, rfl, hn, HM, HB⟩ := hrel
    by_cases hlt : n < l.length
    · have hi : (n : Int) < (l.length : Int) := by omega
      obtain ⟨b, o, rfl, hb, k0, k1, k2, k3⟩ := ((unhide A1).below (unhide HB)).at hlt
      have MY := hide (rmay_any (l.getD n noFA) _ ((unhide AI _ (getD_memF hlt)).below (unhide HB)))
      have HM2 : Hid (mayB (l.getD n noFA).f = true → ∀ i, i < n + 1 → mayB (l.getD i noFA).f = true) := hide (fun hh i hi => by
        by_cases e : i = n
        · subst e; exact hh
        · exact unhide HM i (by omega))
      have HN2 : Hid (mayB (l.getD n noFA).f = false → (l.map FA.f).all mayB = false) := hide (fun hh => by
        rw [List.all_eq_false]
        exact ⟨_, List.mem_map.2 ⟨_, getD_memF hlt, rfl⟩, by rw [hh]; decide⟩)
      generalize mayB (l.getD n noFA).f = D at MY HM2 HN2
      generalize l.getD n noFA = a at k0 k1 k2 k3 MY
      unfold faV at MY
      cases D
      · have HE : Hid (R1 = [] ∧ R2 = 1) := hide (by have := unhide HV; rw [if_pos (unhide HN2 rfl)] at this; simpa using this)
        go_wp2_with fail
        refine (unhide MY).mono ?_
        rintro e w1 ⟨rfl, hb1⟩
        have BB := hide (bl_tr (unhide HB) hb1)
        clear hb1
        go_wp2_with fail
        go_ret2
        obtain ⟨g1, g2⟩ := unhide HE
        subst g1 g2
        exact ⟨⟨none, 0, rfl, ⟨by simp, by omega, by simp, by simp, fun _ => rfl⟩⟩, unhide BB⟩
      · have HM3 := hide (unhide HM2 rfl)
        go_wp2_with fail
        refine (unhide MY).mono ?_
        rintro e w1 ⟨rfl, hb1⟩
        have BB := hide (bl_tr (unhide HB) hb1)
        clear hb1
        go_wp2_with fail
        go_roundw
        case rel => exact ⟨n + 1, by go_num, by omega, HM3, BB⟩
        case measure => simp [intOf]; omega
    · have hi : ¬ (n : Int) < (l.length : Int) := by omega
      have HALL : Hid (∀ i, i < l.length → mayF (l.getD i noFA).f) := hide (fun i hi => (mayB_iff _).1 (unhide HM i (by omega)))
      have HV2 : Hid ((R1, R2) = if 4194304 < (msgB (l.map FA.f)).length then ([], 8) else (msgB (l.map FA.f), 0)) := hide (by
        have h1 : ¬ (l.map FA.f).all mayB = false := by
          have : (l.map FA.f).all mayB = true := List.all_eq_true.2 (fun f hf => by
            obtain ⟨a, ha, rfl⟩ := List.mem_map.1 hf
            obtain ⟨i, hi, rfl⟩ := List.getElem_of_mem ha
            have := unhide HM i (by omega)
            rw [List.getD_eq_getElem?_getD, List.getElem?_eq_getElem hi] at this
            exact this)
          rw [this]; decide
        have := unhide HV
        rw [if_neg h1] at this
        exact this)
      clear HV HM
      go_wp2_with fail
      go_loopw [5, 6] (fun v iv wr => ∃ n : Nat, iv = .int .i64 n ∧ n ≤ l.length ∧ (mpre l n).length ≤ 4194304 ∧ Hid (OwnG 5 (Value.int .u8) w wr v (mpre l n))) (fun _ iv _ => l.length - (intOf iv).toNat)
      case atStart => exact ⟨0, rfl, by omega, by simp [mpre, msgB], hide (OwnG.nil _ _ _ (unhide HB))⟩
      case round =>
        obtain ⟨n, rfl, hn, hml, O⟩ := hrel
        by_cases hlt : n < l.length
        · have hi : (n : Int) < (l.length : Int) := by omega
          obtain ⟨b, o, rfl, hb, k0, k1, k2, k3⟩ := ((unhide A1).below (unhide O).2).at hlt
          have HF := hide (msg_step hlt)
          have HI := hide (unhide AI _ (getD_memF hlt))
          obtain ⟨m1, m2, m3⟩ := unhide HALL n hlt
          have hdl := sumD_mem (getD_memF hlt)
          generalize l.getD n noFA = a at k0 k1 k2 k3 HF HI m1 m2 m3 hdl
          simp only [FA.f] at m1 m2 m3
          obtain ⟨x0', x1'⟩ := u64_range (unhide HI).2.2.1
          obtain ⟨P, hP⟩ : ∃ P, mpre l n = P := ⟨_, rfl⟩
          have HFE : Hid (mpre l (n + 1) = P ++ fieldB a.f) := hide (by rw [← hP]; exact unhide HF)
          rw [hP] at hml O
          clear HF hP
          have O0 := hide ((unhide O).below (al1p wr (Obj.cells #[.int .i64 a.n, .int .i64 a.wr, .int .u64 a.x, .slice a.q a.d.length a.c] 50)))
          have X0 := hide (Box.new wr #[.int .i64 a.n, .int .i64 a.wr, .int .u64 a.x, .slice a.q a.d.length a.c] 50)
          have zt : 0 ≤ a.n * 8 + a.wr := by omega
          have zu : a.n * 8 + a.wr < 18446744073709551616 := by omega
          have VT := hide (fun v => rvarint_any (a.n * 8 + a.wr) v zt zu)
          have vl := varV_len (a.n * 8 + a.wr)
          obtain ⟨V1, hV1⟩ : ∃ V1, varV (a.n * 8 + a.wr) = V1 := ⟨_, rfl⟩
          have HV1 := hide hV1
          rw [hV1] at VT vl
          clear hV1
          have hw4 : a.wr = 0 ∨ a.wr = 1 ∨ a.wr = 5 ∨ a.wr = 2 := by omega
          have wb : 0 ≤ a.wr ∧ a.wr ≤ 5 := by omega
          obtain ⟨wb0, wb1⟩ := wb
          clear m3
          rcases hw4 with hw | hw | hw | hw
          · have HFF0 : Hid (fieldB a.f = V1 ++ (varV a.x)) := hide (by rw [← unhide HV1]; unfold fieldB bodyB FA.f; simp [hw])
            have VX := hide (fun v => rvarint_any a.x v x0' x1')
            have vl2 : (varV a.x).length ≤ 10 := (varV_len _).2
            have t0 : (a.wr == 0) = true := by simp [hw]
            obtain ⟨V2, hV2⟩ : ∃ V2, varV a.x = V2 := ⟨_, rfl⟩
            rw [hV2] at VX vl2 HFF0
            have HFF : Hid (mpre l (n + 1) = P ++ V1 ++ V2) := hide (by rw [unhide HFE, unhide HFF0]; simp [List.append_assoc])
            obtain ⟨T, hT⟩ : ∃ T, (mpre l (n + 1)).length = T := ⟨_, rfl⟩
            have HT := hide hT
            clear hT hV2 hw HFF0 HFE zt zu
            by_cases hbig : 4194304 < T
            · have hbi : (4194304 : Int) < (T : Int) := by omega
              have HE : Hid (R1 = [] ∧ R2 = 8) := hide (by
                have h1 := msg_take (l := l) (n + 1)
                rw [unhide HT] at h1
                have := unhide HV2
                rw [if_pos (by omega)] at this
                simpa using this)
              go_wp2_with fail
              refine (unhide VT _).mono ?_
              rintro e U1 ⟨u1, rfl, hO⟩
              obtain ⟨q1, c1, rfl, hL, _⟩ := hO.form
              have L1 := hide hL
              have P1 := hide ((unhide O0).below hO.2)
              have Y1 := hide ((unhide X0).below hO.2)
              have x1 := (unhide Y1).cell
              clear hO hL
              go_wp2_with (at_builtin; (refine wpList_append_lsG rfl _ _ 24 rfl w 5 i1 (.int .u8 0) 1 Try.underlying24 hi1 y1 z1 b1 rfl (int_one .u8) _ (P) rfl (unhide P1) q1 c1 V1 rfl (unhide L1) (by unfold maxLen; simp <;> omega) (by simp <;> omega) ?_; intro v1 W1 O1 G1; have X1 := hide ((unhide Y1).grown (unhide P1) (by decide) G1); have OH1 := hide O1; clear O1 G1 x1; have x1b := (unhide X1).cell))
              refine (unhide VX _).mono ?_
              rintro e U2 ⟨u2, rfl, hO⟩
              obtain ⟨q2, c2, rfl, hL, _⟩ := hO.form
              have L2 := hide hL
              have P2 := hide ((unhide OH1).below hO.2)
              have Y2 := hide ((unhide X1).below hO.2)
              have x2 := (unhide Y2).cell
              clear hO hL x1b
              go_wp2_with (at_builtin; (refine wpList_append_lsG rfl _ _ 24 rfl w 5 i1 (.int .u8 0) 1 Try.underlying24 hi1 y1 z1 b1 rfl (int_one .u8) _ (P ++ V1) rfl (unhide P2) q2 c2 V2 rfl (unhide L2) (by unfold maxLen; simp <;> omega) (by simp <;> omega) ?_; intro v2 W2 O2 G2; have X2 := hide ((unhide Y2).grown (unhide P2) (by decide) G2); have OE := hide (own_eq6 O2 (unhide HFF).symm); obtain ⟨qe, ce, he, _, _⟩ := (unhide OE).form; rw [unhide HT] at he; subst he; clear O2 G2 x2; have x2b := (unhide X2).cell))
              go_ret2
              have BB := (unhide OE).2
              obtain ⟨g1, g2⟩ := unhide HE
              subst g1 g2
              exact ⟨⟨none, 0, rfl, ⟨by simp, by omega, by simp, by simp, fun _ => rfl⟩⟩, BB⟩
            · have hbi : ¬ (4194304 : Int) < (T : Int) := by omega
              go_wp2_with fail
              refine (unhide VT _).mono ?_
              rintro e U1 ⟨u1, rfl, hO⟩
              obtain ⟨q1, c1, rfl, hL, _⟩ := hO.form
              have L1 := hide hL
              have P1 := hide ((unhide O0).below hO.2)
              have Y1 := hide ((unhide X0).below hO.2)
              have x1 := (unhide Y1).cell
              clear hO hL
              go_wp2_with (at_builtin; (refine wpList_append_lsG rfl _ _ 24 rfl w 5 i1 (.int .u8 0) 1 Try.underlying24 hi1 y1 z1 b1 rfl (int_one .u8) _ (P) rfl (unhide P1) q1 c1 V1 rfl (unhide L1) (by unfold maxLen; simp <;> omega) (by simp <;> omega) ?_; intro v1 W1 O1 G1; have X1 := hide ((unhide Y1).grown (unhide P1) (by decide) G1); have OH1 := hide O1; clear O1 G1 x1; have x1b := (unhide X1).cell))
              refine (unhide VX _).mono ?_
              rintro e U2 ⟨u2, rfl, hO⟩
              obtain ⟨q2, c2, rfl, hL, _⟩ := hO.form
              have L2 := hide hL
              have P2 := hide ((unhide OH1).below hO.2)
              have Y2 := hide ((unhide X1).below hO.2)
              have x2 := (unhide Y2).cell
              clear hO hL x1b
              go_wp2_with (at_builtin; (refine wpList_append_lsG rfl _ _ 24 rfl w 5 i1 (.int .u8 0) 1 Try.underlying24 hi1 y1 z1 b1 rfl (int_one .u8) _ (P ++ V1) rfl (unhide P2) q2 c2 V2 rfl (unhide L2) (by unfold maxLen; simp <;> omega) (by simp <;> omega) ?_; intro v2 W2 O2 G2; have X2 := hide ((unhide Y2).grown (unhide P2) (by decide) G2); have OE := hide (own_eq6 O2 (unhide HFF).symm); obtain ⟨qe, ce, he, _, _⟩ := (unhide OE).form; rw [unhide HT] at he; subst he; clear O2 G2 x2; have x2b := (unhide X2).cell))
              go_roundw
              case rel => exact ⟨n + 1, by go_num, by omega, by have := unhide HT; omega, OE⟩
              case measure => simp [intOf]; omega
          · have HFF0 : Hid (fieldB a.f = V1 ++ (fxL a.x 8)) := hide (by rw [← unhide HV1]; unfold fieldB bodyB FA.f; simp [hw])
            have VX := hide (fun v => (rfixed_any a.x 8 v x0' x1' (by omega) : Calls Try.prog 40 #[.int .u64 a.x, .int .i64 8] v fun e w' => ∃ u, e = .returned u ∧ OwnG 5 (Value.int .u8) v w' u (fxL a.x 8)))
            have vl2 : (fxL a.x 8).length ≤ 10 := by rw [fxL_length]; omega
            have t0 : (a.wr == 0) = false := by simp [hw]
            have t1 : (a.wr == 1) = true := by simp [hw]
            obtain ⟨V2, hV2⟩ : ∃ V2, fxL a.x 8 = V2 := ⟨_, rfl⟩
            rw [hV2] at VX vl2 HFF0
            have HFF : Hid (mpre l (n + 1) = P ++ V1 ++ V2) := hide (by rw [unhide HFE, unhide HFF0]; simp [List.append_assoc])
            obtain ⟨T, hT⟩ : ∃ T, (mpre l (n + 1)).length = T := ⟨_, rfl⟩
            have HT := hide hT
            clear hT hV2 hw HFF0 HFE zt zu
            by_cases hbig : 4194304 < T
            · have hbi : (4194304 : Int) < (T : Int) := by omega
              have HE : Hid (R1 = [] ∧ R2 = 8) := hide (by
                have h1 := msg_take (l := l) (n + 1)
                rw [unhide HT] at h1
                have := unhide HV2
                rw [if_pos (by omega)] at this
                simpa using this)
              go_wp2_with fail
              refine (unhide VT _).mono ?_
              rintro e U1 ⟨u1, rfl, hO⟩
              obtain ⟨q1, c1, rfl, hL, _⟩ := hO.form
              have L1 := hide hL
              have P1 := hide ((unhide O0).below hO.2)
              have Y1 := hide ((unhide X0).below hO.2)
              have x1 := (unhide Y1).cell
              clear hO hL
              go_wp2_with (at_builtin; (refine wpList_append_lsG rfl _ _ 24 rfl w 5 i1 (.int .u8 0) 1 Try.underlying24 hi1 y1 z1 b1 rfl (int_one .u8) _ (P) rfl (unhide P1) q1 c1 V1 rfl (unhide L1) (by unfold maxLen; simp <;> omega) (by simp <;> omega) ?_; intro v1 W1 O1 G1; have X1 := hide ((unhide Y1).grown (unhide P1) (by decide) G1); have OH1 := hide O1; clear O1 G1 x1; have x1b := (unhide X1).cell))
              refine (unhide VX _).mono ?_
              rintro e U2 ⟨u2, rfl, hO⟩
              obtain ⟨q2, c2, rfl, hL, _⟩ := hO.form
              have L2 := hide hL
              have P2 := hide ((unhide OH1).below hO.2)
              have Y2 := hide ((unhide X1).below hO.2)
              have x2 := (unhide Y2).cell
              clear hO hL x1b
              go_wp2_with (at_builtin; (refine wpList_append_lsG rfl _ _ 24 rfl w 5 i1 (.int .u8 0) 1 Try.underlying24 hi1 y1 z1 b1 rfl (int_one .u8) _ (P ++ V1) rfl (unhide P2) q2 c2 V2 rfl (unhide L2) (by unfold maxLen; simp <;> omega) (by simp <;> omega) ?_; intro v2 W2 O2 G2; have X2 := hide ((unhide Y2).grown (unhide P2) (by decide) G2); have OE := hide (own_eq6 O2 (unhide HFF).symm); obtain ⟨qe, ce, he, _, _⟩ := (unhide OE).form; rw [unhide HT] at he; subst he; clear O2 G2 x2; have x2b := (unhide X2).cell))
              go_ret2
              have BB := (unhide OE).2
              obtain ⟨g1, g2⟩ := unhide HE
              subst g1 g2
              exact ⟨⟨none, 0, rfl, ⟨by simp, by omega, by simp, by simp, fun _ => rfl⟩⟩, BB⟩
            · have hbi : ¬ (4194304 : Int) < (T : Int) := by omega
              go_wp2_with fail
              refine (unhide VT _).mono ?_
              rintro e U1 ⟨u1, rfl, hO⟩
              obtain ⟨q1, c1, rfl, hL, _⟩ := hO.form
              have L1 := hide hL
              have P1 := hide ((unhide O0).below hO.2)
              have Y1 := hide ((unhide X0).below hO.2)
              have x1 := (unhide Y1).cell
              clear hO hL
              go_wp2_with (at_builtin; (refine wpList_append_lsG rfl _ _ 24 rfl w 5 i1 (.int .u8 0) 1 Try.underlying24 hi1 y1 z1 b1 rfl (int_one .u8) _ (P) rfl (unhide P1) q1 c1 V1 rfl (unhide L1) (by unfold maxLen; simp <;> omega) (by simp <;> omega) ?_; intro v1 W1 O1 G1; have X1 := hide ((unhide Y1).grown (unhide P1) (by decide) G1); have OH1 := hide O1; clear O1 G1 x1; have x1b := (unhide X1).cell))
              refine (unhide VX _).mono ?_
              rintro e U2 ⟨u2, rfl, hO⟩
              obtain ⟨q2, c2, rfl, hL, _⟩ := hO.form
              have L2 := hide hL
              have P2 := hide ((unhide OH1).below hO.2)
              have Y2 := hide ((unhide X1).below hO.2)
              have x2 := (unhide Y2).cell
              clear hO hL x1b
              go_wp2_with (at_builtin; (refine wpList_append_lsG rfl _ _ 24 rfl w 5 i1 (.int .u8 0) 1 Try.underlying24 hi1 y1 z1 b1 rfl (int_one .u8) _ (P ++ V1) rfl (unhide P2) q2 c2 V2 rfl (unhide L2) (by unfold maxLen; simp <;> omega) (by simp <;> omega) ?_; intro v2 W2 O2 G2; have X2 := hide ((unhide Y2).grown (unhide P2) (by decide) G2); have OE := hide (own_eq6 O2 (unhide HFF).symm); obtain ⟨qe, ce, he, _, _⟩ := (unhide OE).form; rw [unhide HT] at he; subst he; clear O2 G2 x2; have x2b := (unhide X2).cell))
              go_roundw
              case rel => exact ⟨n + 1, by go_num, by omega, by have := unhide HT; omega, OE⟩
              case measure => simp [intOf]; omega
          · have HFF0 : Hid (fieldB a.f = V1 ++ (fxL a.x 4)) := hide (by rw [← unhide HV1]; unfold fieldB bodyB FA.f; simp [hw])
            have VX := hide (fun v => (rfixed_any a.x 4 v x0' x1' (by omega) : Calls Try.prog 40 #[.int .u64 a.x, .int .i64 4] v fun e w' => ∃ u, e = .returned u ∧ OwnG 5 (Value.int .u8) v w' u (fxL a.x 4)))
            have vl2 : (fxL a.x 4).length ≤ 10 := by rw [fxL_length]; omega
            have t0 : (a.wr == 0) = false := by simp [hw]
            have t1 : (a.wr == 1) = false := by simp [hw]
            have t5 : (a.wr == 5) = true := by simp [hw]
            obtain ⟨V2, hV2⟩ : ∃ V2, fxL a.x 4 = V2 := ⟨_, rfl⟩
            rw [hV2] at VX vl2 HFF0
            have HFF : Hid (mpre l (n + 1) = P ++ V1 ++ V2) := hide (by rw [unhide HFE, unhide HFF0]; simp [List.append_assoc])
            obtain ⟨T, hT⟩ : ∃ T, (mpre l (n + 1)).length = T := ⟨_, rfl⟩
            have HT := hide hT
            clear hT hV2 hw HFF0 HFE zt zu
            by_cases hbig : 4194304 < T
            · have hbi : (4194304 : Int) < (T : Int) := by omega
              have HE : Hid (R1 = [] ∧ R2 = 8) := hide (by
                have h1 := msg_take (l := l) (n + 1)
                rw [unhide HT] at h1
                have := unhide HV2
                rw [if_pos (by omega)] at this
                simpa using this)
              go_wp2_with fail
              refine (unhide VT _).mono ?_
              rintro e U1 ⟨u1, rfl, hO⟩
              obtain ⟨q1, c1, rfl, hL, _⟩ := hO.form
              have L1 := hide hL
              have P1 := hide ((unhide O0).below hO.2)
              have Y1 := hide ((unhide X0).below hO.2)
              have x1 := (unhide Y1).cell
              clear hO hL
              go_wp2_with (at_builtin; (refine wpList_append_lsG rfl _ _ 24 rfl w 5 i1 (.int .u8 0) 1 Try.underlying24 hi1 y1 z1 b1 rfl (int_one .u8) _ (P) rfl (unhide P1) q1 c1 V1 rfl (unhide L1) (by unfold maxLen; simp <;> omega) (by simp <;> omega) ?_; intro v1 W1 O1 G1; have X1 := hide ((unhide Y1).grown (unhide P1) (by decide) G1); have OH1 := hide O1; clear O1 G1 x1; have x1b := (unhide X1).cell))
              refine (unhide VX _).mono ?_
              rintro e U2 ⟨u2, rfl, hO⟩
              obtain ⟨q2, c2, rfl, hL, _⟩ := hO.form
              have L2 := hide hL
              have P2 := hide ((unhide OH1).below hO.2)
              have Y2 := hide ((unhide X1).below hO.2)
              have x2 := (unhide Y2).cell
              clear hO hL x1b
              go_wp2_with (at_builtin; (refine wpList_append_lsG rfl _ _ 24 rfl w 5 i1 (.int .u8 0) 1 Try.underlying24 hi1 y1 z1 b1 rfl (int_one .u8) _ (P ++ V1) rfl (unhide P2) q2 c2 V2 rfl (unhide L2) (by unfold maxLen; simp <;> omega) (by simp <;> omega) ?_; intro v2 W2 O2 G2; have X2 := hide ((unhide Y2).grown (unhide P2) (by decide) G2); have OE := hide (own_eq6 O2 (unhide HFF).symm); obtain ⟨qe, ce, he, _, _⟩ := (unhide OE).form; rw [unhide HT] at he; subst he; clear O2 G2 x2; have x2b := (unhide X2).cell))
              go_ret2
              have BB := (unhide OE).2
              obtain ⟨g1, g2⟩ := unhide HE
              subst g1 g2
              exact ⟨⟨none, 0, rfl, ⟨by simp, by omega, by simp, by simp, fun _ => rfl⟩⟩, BB⟩
            · have hbi : ¬ (4194304 : Int) < (T : Int) := by omega
              go_wp2_with fail
              refine (unhide VT _).mono ?_
              rintro e U1 ⟨u1, rfl, hO⟩
              obtain ⟨q1, c1, rfl, hL, _⟩ := hO.form
              have L1 := hide hL
              have P1 := hide ((unhide O0).below hO.2)
              have Y1 := hide ((unhide X0).below hO.2)
              have x1 := (unhide Y1).cell
              clear hO hL
              go_wp2_with (at_builtin; (refine wpList_append_lsG rfl _ _ 24 rfl w 5 i1 (.int .u8 0) 1 Try.underlying24 hi1 y1 z1 b1 rfl (int_one .u8) _ (P) rfl (unhide P1) q1 c1 V1 rfl (unhide L1) (by unfold maxLen; simp <;> omega) (by simp <;> omega) ?_; intro v1 W1 O1 G1; have X1 := hide ((unhide Y1).grown (unhide P1) (by decide) G1); have OH1 := hide O1; clear O1 G1 x1; have x1b := (unhide X1).cell))
              refine (unhide VX _).mono ?_
              rintro e U2 ⟨u2, rfl, hO⟩
              obtain ⟨q2, c2, rfl, hL, _⟩ := hO.form
              have L2 := hide hL
              have P2 := hide ((unhide OH1).below hO.2)
              have Y2 := hide ((unhide X1).below hO.2)
              have x2 := (unhide Y2).cell
              clear hO hL x1b
              go_wp2_with (at_builtin; (refine wpList_append_lsG rfl _ _ 24 rfl w 5 i1 (.int .u8 0) 1 Try.underlying24 hi1 y1 z1 b1 rfl (int_one .u8) _ (P ++ V1) rfl (unhide P2) q2 c2 V2 rfl (unhide L2) (by unfold maxLen; simp <;> omega) (by simp <;> omega) ?_; intro v2 W2 O2 G2; have X2 := hide ((unhide Y2).grown (unhide P2) (by decide) G2); have OE := hide (own_eq6 O2 (unhide HFF).symm); obtain ⟨qe, ce, he, _, _⟩ := (unhide OE).form; rw [unhide HT] at he; subst he; clear O2 G2 x2; have x2b := (unhide X2).cell))
              go_roundw
              case rel => exact ⟨n + 1, by go_num, by omega, by have := unhide HT; omega, OE⟩
              case measure => simp [intOf]; omega
          · have HFF0 : Hid (fieldB a.f = V1 ++ (varV (a.d.length : Int) ++ a.d)) := hide (by rw [← unhide HV1]; unfold fieldB bodyB FA.f; simp [hw])
            have VX := hide (fun v => rvarint_any (a.d.length : Int) v (by omega) (by omega))
            have vl2 : (varV (a.d.length : Int)).length ≤ 10 := (varV_len _).2
            have t0 : (a.wr == 0) = false := by simp [hw]
            have t1 : (a.wr == 1) = false := by simp [hw]
            have t5 : (a.wr == 5) = false := by simp [hw]
            obtain ⟨V2, hV2⟩ : ∃ V2, varV (a.d.length : Int) = V2 := ⟨_, rfl⟩
            rw [hV2] at VX vl2 HFF0
            have HFF : Hid (mpre l (n + 1) = P ++ V1 ++ V2 ++ a.d) := hide (by rw [unhide HFE, unhide HFF0]; simp [List.append_assoc])
            obtain ⟨T, hT⟩ : ∃ T, (mpre l (n + 1)).length = T := ⟨_, rfl⟩
            have HT := hide hT
            clear hT hV2 hw HFF0 HFE zt zu
            by_cases hbig : 4194304 < T
            · have hbi : (4194304 : Int) < (T : Int) := by omega
              have HE : Hid (R1 = [] ∧ R2 = 8) := hide (by
                have h1 := msg_take (l := l) (n + 1)
                rw [unhide HT] at h1
                have := unhide HV2
                rw [if_pos (by omega)] at this
                simpa using this)
              go_wp2_with fail
              refine (unhide VT _).mono ?_
              rintro e U1 ⟨u1, rfl, hO⟩
              obtain ⟨q1, c1, rfl, hL, _⟩ := hO.form
              have L1 := hide hL
              have P1 := hide ((unhide O0).below hO.2)
              have Y1 := hide ((unhide X0).below hO.2)
              have x1 := (unhide Y1).cell
              clear hO hL
              go_wp2_with (at_builtin; (refine wpList_append_lsG rfl _ _ 24 rfl w 5 i1 (.int .u8 0) 1 Try.underlying24 hi1 y1 z1 b1 rfl (int_one .u8) _ (P) rfl (unhide P1) q1 c1 V1 rfl (unhide L1) (by unfold maxLen; simp <;> omega) (by simp <;> omega) ?_; intro v1 W1 O1 G1; have X1 := hide ((unhide Y1).grown (unhide P1) (by decide) G1); have OH1 := hide O1; clear O1 G1 x1; have x1b := (unhide X1).cell))
              refine (unhide VX _).mono ?_
              rintro e U2 ⟨u2, rfl, hO⟩
              obtain ⟨q2, c2, rfl, hL, _⟩ := hO.form
              have L2 := hide hL
              have P2 := hide ((unhide OH1).below hO.2)
              have Y2 := hide ((unhide X1).below hO.2)
              have x2 := (unhide Y2).cell
              clear hO hL x1b
              have AD := hide (fun v (hv : Below w.heap.size w v) => ((unhide HI).below hv).2.2.2.ls)
              have hdd : a.d.length ≤ 140737480000000 := by omega
              go_wp2_with (first
                | (at_builtin; (refine wpList_append_lsG rfl _ _ 24 rfl w 5 i1 (.int .u8 0) 1 Try.underlying24 hi1 y1 z1 b1 rfl (int_one .u8) _ (P ++ V1) rfl (unhide P2) q2 c2 V2 rfl (unhide L2) (by unfold maxLen; simp <;> omega) (by simp <;> omega) ?_; intro v2 W2 O2 G2; have X2 := hide ((unhide Y2).grown (unhide P2) (by decide) G2); have OH2 := hide O2; have P3 := OH2; have Y3 := X2; clear O2 G2 x2; have x2b := (unhide X2).cell))
                | (at_builtin; (refine wpList_append_lsG rfl _ _ 24 rfl w 5 i1 (.int .u8 0) 1 Try.underlying24 hi1 y1 z1 b1 rfl (int_one .u8) _ (P ++ V1 ++ V2) rfl (unhide P3) a.q a.c a.d rfl (unhide AD _ (unhide P3).2) (by unfold maxLen; simp <;> omega) (by simp <;> omega) ?_; intro v3 W3 O3 G3; have X3 := hide ((unhide Y3).grown (unhide P3) (by decide) G3); have OE := hide (own_eq6 O3 (unhide HFF).symm); obtain ⟨qe, ce, he, _, _⟩ := (unhide OE).form; rw [unhide HT] at he; subst he; clear O3 G3; have x3b := (unhide X3).cell)))
              go_ret2
              have BB := (unhide OE).2
              obtain ⟨g1, g2⟩ := unhide HE
              subst g1 g2
              exact ⟨⟨none, 0, rfl, ⟨by simp, by omega, by simp, by simp, fun _ => rfl⟩⟩, BB⟩
            · have hbi : ¬ (4194304 : Int) < (T : Int) := by omega
              go_wp2_with fail
              refine (unhide VT _).mono ?_
              rintro e U1 ⟨u1, rfl, hO⟩
              obtain ⟨q1, c1, rfl, hL, _⟩ := hO.form
              have L1 := hide hL
              have P1 := hide ((unhide O0).below hO.2)
              have Y1 := hide ((unhide X0).below hO.2)
              have x1 := (unhide Y1).cell
              clear hO hL
              go_wp2_with (at_builtin; (refine wpList_append_lsG rfl _ _ 24 rfl w 5 i1 (.int .u8 0) 1 Try.underlying24 hi1 y1 z1 b1 rfl (int_one .u8) _ (P) rfl (unhide P1) q1 c1 V1 rfl (unhide L1) (by unfold maxLen; simp <;> omega) (by simp <;> omega) ?_; intro v1 W1 O1 G1; have X1 := hide ((unhide Y1).grown (unhide P1) (by decide) G1); have OH1 := hide O1; clear O1 G1 x1; have x1b := (unhide X1).cell))
              refine (unhide VX _).mono ?_
              rintro e U2 ⟨u2, rfl, hO⟩
              obtain ⟨q2, c2, rfl, hL, _⟩ := hO.form
              have L2 := hide hL
              have P2 := hide ((unhide OH1).below hO.2)
              have Y2 := hide ((unhide X1).below hO.2)
              have x2 := (unhide Y2).cell
              clear hO hL x1b
              have AD := hide (fun v (hv : Below w.heap.size w v) => ((unhide HI).below hv).2.2.2.ls)
              have hdd : a.d.length ≤ 140737480000000 := by omega
              go_wp2_with (first
                | (at_builtin; (refine wpList_append_lsG rfl _ _ 24 rfl w 5 i1 (.int .u8 0) 1 Try.underlying24 hi1 y1 z1 b1 rfl (int_one .u8) _ (P ++ V1) rfl (unhide P2) q2 c2 V2 rfl (unhide L2) (by unfold maxLen; simp <;> omega) (by simp <;> omega) ?_; intro v2 W2 O2 G2; have X2 := hide ((unhide Y2).grown (unhide P2) (by decide) G2); have OH2 := hide O2; have P3 := OH2; have Y3 := X2; clear O2 G2 x2; have x2b := (unhide X2).cell))
                | (at_builtin; (refine wpList_append_lsG rfl _ _ 24 rfl w 5 i1 (.int .u8 0) 1 Try.underlying24 hi1 y1 z1 b1 rfl (int_one .u8) _ (P ++ V1 ++ V2) rfl (unhide P3) a.q a.c a.d rfl (unhide AD _ (unhide P3).2) (by unfold maxLen; simp <;> omega) (by simp <;> omega) ?_; intro v3 W3 O3 G3; have X3 := hide ((unhide Y3).grown (unhide P3) (by decide) G3); have OE := hide (own_eq6 O3 (unhide HFF).symm); obtain ⟨qe, ce, he, _, _⟩ := (unhide OE).form; rw [unhide HT] at he; subst he; clear O3 G3; have x3b := (unhide X3).cell)))
              go_roundw
              case rel => exact ⟨n + 1, by go_num, by omega, by have := unhide HT; omega, OE⟩
              case measure => simp [intOf]; omega
        · have hi : ¬ (n : Int) < (l.length : Int) := by omega
          have HE : Hid (R1 = mpre l n ∧ R2 = 0) := hide (by
            have e1 : mpre l n = msgB (l.map FA.f) := msg_all (by omega)
            have := unhide HV2
            rw [← e1, if_neg (by omega)] at this
            simpa using this)
          have HBB : Hid (isB (mpre l n)) := hide (fun c hc => by
            obtain ⟨f, hf, hcf⟩ := List.mem_flatMap.1 hc
            obtain ⟨a, ha, rfl⟩ := List.mem_map.1 hf
            have ha2 := List.mem_of_mem_take ha
            obtain ⟨i, hi, rfl⟩ := List.getElem_of_mem ha2
            have hm := unhide HALL i hi
            rw [List.getD_eq_getElem?_getD, List.getElem?_eq_getElem hi] at hm
            exact fieldB_isB hm (unhide AI _ ha2).ok (by have := sumD_mem ha2; show (l[i].d).length < _; omega) c hcf)
          obtain ⟨q, d, hv, hL, _⟩ := (unhide O).form
          have HL := hide (hL.ints (isB_wf (unhide HBB)))
          have BB := hide (unhide O).2
          subst hv
          clear hL O
          go_wp2_with fail
          go_ret2
          obtain ⟨g1, g2⟩ := unhide HE
          subst g1 g2
          exact ⟨⟨q, d, rfl, unhide HL⟩, unhide BB⟩
end Go.Proofs.Ytbcmfgohbppndaa
