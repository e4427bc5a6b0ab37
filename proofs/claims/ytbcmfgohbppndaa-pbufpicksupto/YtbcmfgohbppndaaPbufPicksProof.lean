/- For all fields (together at most 1048576 values), every number and every Wire: All, Last and Joined answer what the document says, in memory of their own. -/
import Derived.Test.YtbcmfgohbppndaaRows
import Derived.WalkKit
import Derived.ProofKit
import Derived.OpenShut
import Derived.Below
import Derived.Carry
import Derived.JoinedCond
import Derived.Test.YtbcmfgohbppndaaLO
import Derived.Test.YtbcmfgohbppndaaKQ
namespace Go.Proofs.Ytbcmfgohbppndaa.pbufPicks
open Go.ChangeShapes Go.WideShapes Go.ChangeAt Go.RowKit
set_option linter.unusedVariables false

theorem own : ownKnob Try.prog.godebug = none := by kernel_rfl
theorem laidOut : laidOutB Try.prog = true := by kernel_rfl

set_option maxRecDepth 100000 in
set_option maxHeartbeats 8000000 in
/-- The statement's call returns true, whatever came in. -/
theorem walk (p0 : Option Addr) (c0 : Nat) (L0 : List FA) (a1 : Int) (a2 : Int) (W : World) (s0 : Fls W p0 c0 L0) (u0 : sumD L0 + L0.length ≤ 1048576) (w1 : (Lit.int .i64 a1).wf = true) (w2 : (Lit.int .i64 a2).wf = true) :
    Calls Try.prog 7 #[.slice p0 L0.length c0, .int .i64 a1, .int .i64 a2] W fun e W' => e = .returned (.bool true) ∧ Below W.heap.size W W' := by
  have S0 := hide s0
  have hd : ∀ a ∈ L0, a.d.length ≤ 140737488355328 := fun a ha => by have := sumD_mem ha; omega
  have PL := hide (fun w h => plain6_any p0 c0 L0 w h (by omega))
  have CA := hide (fun w h => call_any p0 c0 L0 a1 w h (by omega) hd)
  have RA := hide (fun q d w h => rall_any q d L0 a1 w h (by omega))
  have CL := hide (fun w h => clast_any p0 c0 L0 a1 a2 w h (by omega) hd)
  have RL := hide (fun q d w h => rlast_any q d L0 a1 a2 w h (by omega))
  have CJ := hide (fun w h => cjoined_any p0 c0 L0 a1 w h (by omega) (by omega))
  have RJ := hide (fun q d w h => rjoined_any q d L0 a1 w h (by omega) (by omega))
  have HZ : Hid ((lastA L0 a1 a2).f = (lastV (L0.map FA.f) a1 a2).1) := hide (lastA_f L0 a1 a2)
  have HZI : Hid (∀ w, Fls w p0 c0 L0 → FaIn w (lastA L0 a1 a2)) := hide (fun w h => lastA_in h.2)
  have HJB : Hid (isB (joinV (L0.map FA.f) a1).1) := hide (by
    have e2 : (allV (L0.map FA.f) a1) = (allA L0 a1).map FA.f := (allA_f L0 a1).symm
    unfold joinV
    split
    · exact fun c hc => by cases hc
    · rw [e2, flatD_f]
      exact flatD_isB (allA_in s0.2))
  have HAI : Hid (∀ w, Fls w p0 c0 L0 → ∀ a ∈ allA L0 a1, FaIn w a) := hide (fun w h => allA_in h.2)
  generalize lastA L0 a1 a2 = Z at RL HZ HZI
  generalize lastV (L0.map FA.f) a1 a2 = R at CL RL HZ
  generalize joinV (L0.map FA.f) a1 = J at CJ RJ HJB
  generalize allA L0 a1 = A0 at CA RA HAI
  obtain ⟨R1, R2, R3⟩ := R
  obtain ⟨J1, J2, J3⟩ := J
  simp only at CL RL CJ RJ HZ HJB
  clear s0 w1 w2 hd
  go_enter Try.func7, Try.ntmps7
  go_wp2_with fail
  refine (awake6_any _).mono ?_
  rintro e w1 ⟨rfl, hb⟩
  have B := hide hb
  clear hb
  go_wp2_with fail
  refine (unhide PL _ ((unhide S0).below (unhide B))).mono ?_
  rintro e w2 ⟨v2, rfl, hO⟩
  obtain ⟨q2, d2, rfl, hl2, _⟩ := hO.form
  have F2 : Hid (Fls w2 q2 d2 L0) := hide ⟨hl2, fun a ha => ((unhide S0).below (bl_tr (unhide B) hO.2)).2 a ha⟩
  replace B := hide (bl_tr (unhide B) hO.2)
  clear hO hl2 PL
  have BX := hide (Below.refl w2.heap.size w2)
  go_wp2_with fail
  refine (unhide CA _ ((unhide S0).below (unhide B))).mono ?_
  rintro e w3 ⟨v3, A, rfl, hf3, h3⟩
  obtain ⟨q3, d3, rfl, hF3⟩ := (unhide h3).fls
  have O3 := h3
  replace BX := hide (unhide h3).1.2
  have z23 : w2.heap.size ≤ w3.heap.size := (unhide BX).size
  clear hF3 h3 hf3
  go_wp2_with fail
  refine (unhide CL _ ((unhide S0).below (bl_tr (unhide B) (unhide BX)))).mono ?_
  rintro e w4 ⟨a, rfl, hq⟩
  obtain ⟨ga, gi, go, gb⟩ := unhide hq
  obtain ⟨an, aw, ax, ad, aq, ac⟩ := a
  obtain ⟨zn, zw, zx, zd, zq, zc⟩ := Z
  have e1 : (an, aw, ax, ad) = (zn, zw, zx, zd) := by
    have h1 : (FA.f ⟨an, aw, ax, ad, aq, ac⟩) = (FA.f ⟨zn, zw, zx, zd, zq, zc⟩) := ga.trans (unhide HZ).symm
    exact h1
  simp only [Prod.mk.injEq] at e1
  obtain ⟨rfl, rfl, rfl, rfl⟩ := e1
  have GI := hide gi
  have GO := hide go
  have nad := gi.2.2.2.len
  replace BX := hide (bl_tr (unhide BX) gb)
  have z34 : w3.heap.size ≤ w4.heap.size := gb.size
  have O3b := hide ((unhide O3).below gb)
  clear hq ga gi go gb CL
  unfold faV
  simp only
  go_wp2_with fail
  have X4 := hide (Box.new w4 #[.int .i64 an, .int .i64 aw, .int .u64 ax, .slice aq ad.length ac] 40)
  refine (unhide RL _ _ _ ((unhide F2).below (bl_tr (unhide BX) (al1p _ _)))).mono ?_
  rintro e w5 ⟨rfl, hb5⟩
  have BA5 := hide (bl_tr (al1p w4 (Obj.cells #[.int .i64 an, .int .i64 aw, .int .u64 ax, .slice aq ad.length ac] 40)) hb5)
  replace X4 := hide ((unhide X4).below hb5)
  replace BX := hide (bl_tr (unhide BX) (unhide BA5))
  have z45 : w4.heap.size ≤ w5.heap.size := (unhide BA5).size
  clear hb5 RL
  unfold faV
  simp only
  go_wp2_with fail
  have X5 := hide (Box.new w5 #[.int .i64 an, .int .i64 aw, .int .u64 ax, .slice zq ad.length zc] 50)
  refine (unhide CJ _ ((unhide S0).below (bl_tr (unhide B) (bl_tr (unhide BX) (al1p _ _))))).mono ?_
  rintro e w6 ⟨v6, rfl, h6⟩
  obtain ⟨q6, d6, rfl, hl6, _⟩ := h6.form
  have O6 := hide h6
  have n6 := hl6.len
  replace X4 := hide (((unhide X4).below (al1p _ _)).below h6.2)
  replace X5 := hide ((unhide X5).below h6.2)
  have BA6 := hide (bl_tr (unhide BA5) (bl_tr (al1p _ _) h6.2))
  replace BX := hide (bl_tr (unhide BX) (bl_tr (al1p _ _) h6.2))
  have z56 : w5.heap.size + 1 ≤ w6.heap.size := by have := h6.2.size; simpa using this
  clear h6 hl6 BA5
  go_wp2_with fail
  refine (unhide RJ _ _ _ ((unhide F2).below (unhide BX))).mono ?_
  rintro e w7 ⟨⟨q7, d7, rfl, hI7, hF7⟩, hb7⟩
  have I7 := hide hI7
  have FR7 := hide hF7
  have B67 := hide hb7
  replace X4 := hide ((unhide X4).below hb7)
  replace X5 := hide ((unhide X5).below hb7)
  have x4 := (unhide X4).cell
  have x5 := (unhide X5).cell
  have BA7 := hide (bl_tr (unhide BA6) hb7)
  replace BX := hide (bl_tr (unhide BX) hb7)
  have SB := hide (rsameb_any aq zq ac zc ad ad w7 ((unhide GI).below (unhide BA7)).2.2.2 (unhide HZI _ ((unhide S0).below (bl_tr (unhide B) (unhide BX)))).2.2.2)
  simp only [decide_true] at SB
  clear hI7 hF7 hb7 RJ
  go_wp2_with fail
  refine (unhide SB).mono ?_
  rintro e U ⟨rfl, hbU⟩
  have B7U := hide hbU
  clear hbU SB x4 x5
  have B6U := hide (bl_tr (unhide B67) (unhide B7U))
  replace BX := hide (bl_tr (unhide BX) (unhide B7U))
  have XU := hide ((unhide X4).below (unhide B7U))
  have z6U : w6.heap.size ≤ U.heap.size := (unhide B6U).size
  have RW0 : Hid (RowOK w2.heap.size w6.heap.size U q3 A 0) := hide (by
    have sp : Spoil w2.heap.size w6.heap.size w4 U := Spoil.below (bl_tr (unhide BA7) (unhide B7U)) (by omega)
    exact (OwnF.rowOK (unhide O3b).1 (Nat.le_refl _) (by omega)).spoil sp)
  have DA0 : Hid (∀ i, i < A.length → DataOK w2.heap.size w6.heap.size U (A.getD i noFA).q (A.getD i noFA).d.length (A.getD i noFA).c) := hide (fun i hi => by
    have sp : Spoil w2.heap.size w6.heap.size w4 U := Spoil.below (bl_tr (unhide BA7) (unhide B7U)) (by omega)
    exact sp.2.2.2 _ _ _ (OwnD.dataOK ((unhide O3b).2 _ (getD_memF hi)).2 ((unhide O3b).2 _ (getD_memF hi)).1.ok.2.2 (by omega)))
  have DC0 : Hid (DataOK w2.heap.size w6.heap.size U q6 J1.length d6) := hide (by
    have sp : Spoil w2.heap.size w6.heap.size w6 U := Spoil.below (unhide B6U) (by omega)
    exact sp.2.2.2 _ _ _ (OwnG.dataOK (unhide O6) (unhide HJB) (by simp; omega) (Nat.le_refl _)))
  have DD0 : Hid (DataOK w2.heap.size w6.heap.size U aq ad.length ac) := hide (by
    have sp : Spoil w2.heap.size w6.heap.size w4 U := Spoil.below (bl_tr (unhide BA7) (unhide B7U)) (by omega)
    exact sp.2.2.2 _ _ _ (OwnD.dataOK (OwnD.mono (unhide GO) z23) (unhide GI).ok.2.2 (by omega)))
  have hAl : A.length ≤ 9223372036854775807 := by obtain ⟨_, _, hv, hc, _⟩ := (unhide O3b).1.form; exact hc.len
  have HDA : Hid (∀ i, i < A.length → (A.getD i noFA).d.length ≤ 9223372036854775807) := hide (fun i hi => ((unhide O3b).2 _ (getD_memF hi)).1.2.2.2.len)
  clear O3 O3b O6 GI GO X4 X5 BA6 BA7 HZI
  go_wp2_with fail
  go_loopw [23] (fun iv wr => ∃ n : Nat, iv = .int .i64 n ∧ n ≤ A.length ∧ Hid (Spoil w2.heap.size w6.heap.size U wr)) (fun iv _ => A.length - (intOf iv).toNat)
  case atStart => exact ⟨0, rfl, by omega, hide (Spoil.refl _ _ _)⟩
  case round =>
    obtain ⟨n, rfl, hn, IV⟩ := hrel
    by_cases hlt : n < A.length
    · have hi : (n : Int) < (A.length : Int) := by omega
      have hdl := unhide HDA n hlt
      go_wp2_with fail
      go_loopw [24] (fun jv wr => ∃ j : Nat, jv = .int .i64 j ∧ j ≤ (A.getD n noFA).d.length ∧ Hid (Spoil w2.heap.size w6.heap.size U wr)) (fun jv _ => (A.getD n noFA).d.length - (intOf jv).toNat)
      case atStart => exact ⟨0, rfl, by omega, IV⟩
      case round =>
        obtain ⟨j, rfl, hj, IQ⟩ := hrel
        have zq : U.heap.size ≤ wr.heap.size := (unhide IQ).2.1.1
        have RWn : Hid (RowOK w2.heap.size w6.heap.size wr q3 A n) := hide (fun hp => by
          obtain ⟨r, cur, h1, h2, h3, h4, h5⟩ := ((unhide RW0).spoil (unhide IQ)) (by omega)
          exact ⟨r, cur, h1, h2, h3, h4, fun i _ hil => h5 i (by omega) hil⟩)
        obtain ⟨r, o, hq, hr, c3, c0', fr⟩ := (unhide RWn).at hlt
        have HDQ := hide ((unhide IQ).2.2.2 _ _ _ (unhide DA0 n hlt))
        obtain ⟨a, ha⟩ : ∃ a, A.getD n noFA = a := ⟨_, rfl⟩
        rw [ha] at c3 c0' hj hdl HDQ
        rw [ha]
        subst hq
        by_cases hjl : j < a.d.length
        · have hji : (j : Int) < (a.d.length : Int) := by omega
          obtain ⟨gd, od, x, hqd, hgd, cd, fd, x0', x1', hset⟩ := (unhide HDQ).at hjl
          rw [hqd] at c3
          obtain ⟨h0, h1⟩ := xor8 1 (by omega) x x0' x1'
          have SP := hide (hset _ h0 h1)
          clear hset h0 h1 c0'
          go_wp2_with fail
          go_region
          go_wp2_with fail
          go_roundw
          case rel => exact ⟨j + 1, by go_num, by omega, hide ((unhide IQ).trans ((unhide SP).trans (Spoil.below (bdrewp _) (by have := (unhide SP).2.1.1; omega))))⟩
          case measure => simp [intOf]; omega
        · have hji : ¬ (j : Int) < (a.d.length : Int) := by omega
          clear c0'
          go_wp2_with fail
          go_roundw
          case rel => exact ⟨n + 1, by go_num, by omega, IQ⟩
          case measure => simp [intOf]; omega
    · have hi : ¬ (n : Int) < (A.length : Int) := by omega
      go_wp2_with fail
      go_loopw [25] (fun jv wr => ∃ j : Nat, jv = .int .i64 j ∧ j ≤ J1.length ∧ Hid (Spoil w2.heap.size w6.heap.size U wr)) (fun jv _ => J1.length - (intOf jv).toNat)
      case atStart => exact ⟨0, rfl, by omega, IV⟩
      case round =>
        obtain ⟨j, rfl, hj, IQ⟩ := hrel
        have zq : U.heap.size ≤ wr.heap.size := (unhide IQ).2.1.1
        by_cases hjl : j < J1.length
        · have hji : (j : Int) < (J1.length : Int) := by omega
          obtain ⟨gd, od, x, hqd, hgd, cd, fd, x0', x1', hset⟩ := ((unhide IQ).2.2.2 _ _ _ (unhide DC0)).at hjl
          subst hqd
          obtain ⟨h0, h1⟩ := xor8 4 (by omega) x x0' x1'
          have SP := hide (hset _ h0 h1)
          clear hset h0 h1
          go_wp2_with fail
          go_roundw
          case rel => exact ⟨j + 1, by go_num, by omega, hide ((unhide IQ).trans (unhide SP))⟩
          case measure => simp [intOf]; omega
        · have hji : ¬ (j : Int) < (J1.length : Int) := by omega
          go_wp2_with fail
          go_loopw [26] (fun jv wr => ∃ j : Nat, jv = .int .i64 j ∧ j ≤ ad.length ∧ Hid (Spoil w2.heap.size w6.heap.size U wr)) (fun jv _ => ad.length - (intOf jv).toNat)
          case atStart => exact ⟨0, rfl, by omega, IQ⟩
          case round =>
            obtain ⟨m, rfl, hm, IR⟩ := hrel
            have zr : U.heap.size ≤ wr.heap.size := (unhide IR).2.1.1
            have XR : Hid (Box wr w4.heap.size #[.int .i64 an, .int .i64 aw, .int .u64 ax, .slice aq ad.length ac] 40) := hide ((unhide IR).2.2.1 _ _ _ (by decide) (unhide XU))
            have xr := (unhide XR).cell
            by_cases hml : m < ad.length
            · have hmi : (m : Int) < (ad.length : Int) := by omega
              obtain ⟨gd, od, x, hqd, hgd, cd, fd, x0', x1', hset⟩ := ((unhide IR).2.2.2 _ _ _ (unhide DD0)).at hml
              subst hqd
              obtain ⟨h0, h1⟩ := xor8 2 (by omega) x x0' x1'
              have SP := hide (hset _ h0 h1)
              clear hset h0 h1
              go_wp2_with fail
              go_region
              go_wp2_with fail
              go_roundw
              case rel => exact ⟨m + 1, by go_num, by omega, hide ((unhide IR).trans ((unhide SP).trans (Spoil.below (bdrewp _) (by have := (unhide SP).2.1.1; omega))))⟩
              case measure => simp [intOf]; omega
            · have hmi : ¬ (m : Int) < (ad.length : Int) := by omega
              have BZ := hide ((unhide IR).bel (Nat.le_refl _) (unhide BX))
              have BW := hide (bl_tr (unhide B) (unhide BZ))
              have P2 := hide ((unhide F2).below (unhide BZ))
              have I7z : Hid (Ints .u8 wr q7 d7 J1) := hide (((unhide I7).below (unhide B7U)).midN (unhide IR).2.1 (fun b o e hp => (unhide FR7 b o e hp).1))
              clear RW0 DA0 DC0 DD0 XU IV IQ IR
              go_wp2_with fail
              refine (unhide CA _ ((unhide S0).below (unhide BW))).mono ?_
              rintro e w8 ⟨v8, A2, rfl, hf8, h8⟩
              obtain ⟨q8, d8, rfl, hF8⟩ := (unhide h8).fls
              have F8 := hide hF8
              have HF8 := hf8
              replace BW := hide (bl_tr (unhide BW) (unhide h8).1.2)
              replace P2 := hide ((unhide P2).below (unhide h8).1.2)
              replace I7z := hide ((unhide I7z).below (unhide h8).1.2)
              clear hF8 hf8 h8 CA xr XR
              go_wp2_with fail
              refine (unhide CJ _ ((unhide S0).below (unhide BW))).mono ?_
              rintro e w9 ⟨v9, rfl, h9⟩
              obtain ⟨q9, d9, rfl, hl9, _⟩ := h9.form
              have I9 := hide (hl9.ints (isB_wf (unhide HJB)))
              replace BW := hide (bl_tr (unhide BW) h9.2)
              replace P2 := hide ((unhide P2).below h9.2)
              replace I7z := hide ((unhide I7z).below h9.2)
              replace F8 := hide ((unhide F8).below h9.2)
              clear hl9 h9 CJ
              go_wp2_with fail
              refine (unhide RA _ _ _ (unhide P2)).mono ?_
              rintro e w10 ⟨v10, rfl, h10⟩
              obtain ⟨q10, d10, rfl, hc10, _⟩ := h10.form
              replace BW := hide (bl_tr (unhide BW) h10.2)
              replace I7z := hide ((unhide I7z).below h10.2)
              replace I9 := hide ((unhide I9).below h10.2)
              have SM := hide (same6_any q8 q10 d8 d10 A2 A0 w10 ((unhide F8).below h10.2) ⟨hc10, fun x hx => unhide HAI _ ((unhide S0).below (unhide BW)) x hx⟩)
              rw [decide_eq_true (unhide HF8)] at SM
              clear h10 hc10 RA F8 P2
              go_wp2_with fail
              refine (unhide SM).mono ?_
              rintro e w11 ⟨rfl, hb⟩
              have SB := hide (rsameb_any q9 q7 d9 d7 J1 J1 w11 ((unhide I9).below hb) ((unhide I7z).below hb))
              simp only [decide_true] at SB
              replace BW := hide (bl_tr (unhide BW) hb)
              clear hb SM I9 I7z
              go_wp2_with fail
              refine (unhide SB).mono ?_
              rintro e w12 ⟨rfl, hb⟩
              replace BW := hide (bl_tr (unhide BW) hb)
              clear hb SB
              go_wp2_with fail
              go_ret
              exact ⟨rfl, unhide BW⟩

/-- A part's bulk is at most the whole's. -/
theorem bulk_part {H : Type} {d : DataW H} : ∀ {l : List (DataW H)}, d ∈ l → Rows.uptoBulk d ≤ Rows.uptoBulkAll l
  | [], h => by cases h
  | x :: r, h => by
    simp only [Rows.uptoBulkAll]
    rcases List.mem_cons.1 h with e | e
    · subst e; omega
    · have := bulk_part e; omega
theorem bulk_lits {H : Type} (k : IntKind) : ∀ l : List Int, l.length ≤ Rows.uptoBulkAll (H := H) (lits k l)
  | [] => by simp
  | x :: r => by
    have := bulk_lits (H := H) k r
    simp only [lits, List.map_cons, Rows.uptoBulkAll, Rows.uptoBulk, List.length_cons] at *
    omega
theorem bulk_cap {H : Type} {k : IntKind} {d : DataW H} {cap : Nat} {xs : List Int} (h : d = .nil ∧ cap = 0 ∨ ∃ sp : List Int, d = .slice (lits k xs) (lits k sp) ∧ xs.length + sp.length = cap) : cap ≤ Rows.uptoBulk d := by
  rcases h with ⟨rfl, rfl⟩ | ⟨sp, rfl, e⟩
  · omega
  · have h1 := bulk_lits (H := H) k xs
    have h2 := bulk_lits (H := H) k sp
    simp only [Rows.uptoBulk]
    omega

set_option maxRecDepth 100000 in
theorem contract (H : Type) (enc : TypeId × Value → H) (W : World) (base : Nat) (args : Array Value) (ds gs : List (DataW H)) (before : List MemPlace)
    (hval0 : ∀ (j : Nat) t v, Try.f7.params[j]? = some t → args[j]? = some v → Value.okWide Try.prog W .any base t v)
    (hW : DataW.Whole enc Try.prog Try.f7.params.toList Rows.pbufPicksSpec.vars false W args.toList ds gs before) (hk : Rows.uptoSmall H (ds ++ gs) = true) :
    Calls Try.prog 7 args W fun e W' => ∃ v, e = .returned v ∧ Rows.pbufPicksSpec.post enc Try.prog Try.f7 false true false false W args v W' := by
  have hval : ∀ (j : Nat) t v, Try.f7.params[j]? = some t → args[j]? = some v → Value.okWide Try.prog W .any base t v := hval0
  have hW' := hW
  obtain ⟨p, q, hA0, hV, rfl, hfz, hnd⟩ := hW
  have hA : DataW.TrodAll enc Try.prog W 0 (fun _ => true) true Try.f7.params.toList args.toList ds p := hA0
  rw [Try.params7] at hA hval
  obtain ⟨v0, vs0, d0, ds0, pl0, q0, hargs, rfl, rfl, h0, r0⟩ := trodAll_cons hA
  obtain ⟨v1, vs1, d1, ds1, pl1, q1, rfl, rfl, rfl, h1, r1⟩ := trodAll_cons r0
  obtain ⟨v2, vs2, d2, ds2, pl2, q2, rfl, rfl, rfl, h2, r2⟩ := trodAll_cons r1
  obtain ⟨rfl, rfl, rfl⟩ := trodAll_nil r2
  obtain rfl : args = #[v0, v1, v2] := by cases args; simp_all
  obtain ⟨rfl, rfl⟩ := trodVars_none hV
  have h0k := h0
  obtain ⟨p0, c0, L0, rfl, s0, hd0⟩ := flds_open (hval 0 32 v0 rfl rfl) h0
  have hlt0 : ∀ y ∈ pl0, y.block < W.heap.size := fun y hy => hW'.lt y (by simp [hy])
  have u0 : sumD L0 + L0.length ≤ 1048576 := by
    have h1 := bulk_flds s0 hd0
    have h2 : Rows.uptoBulkAll ([d0, d1, d2] ++ []) ≤ 1048576 := of_decide_eq_true hk
    have h3 : Rows.uptoBulk d0 ≤ Rows.uptoBulkAll ([d0, d1, d2] ++ []) := bulk_part (by simp)
    exact Nat.le_trans h1 (Nat.le_trans h3 h2)
  obtain ⟨a1, rfl, rfl, rfl, w1⟩ := open_int Try.underlying3 (hval 1 3 v1 rfl rfl) h1
  obtain ⟨a2, rfl, rfl, rfl, w2⟩ := open_int Try.underlying3 (hval 2 3 v2 rfl rfl) h2
  clear hA0 hval0
  simp only [List.append_nil] at hW'
  refine (walk p0 c0 L0 a1 a2 W s0 u0 w1 w2).mono fun e W' ⟨he, bel⟩ => ?_
  subst he
  exact ⟨_, rfl, _, _, _, [], _, [], hW', trodAll_mk1 (shut_bool Try.underlying4 _), (trodAll_cons_mk (Below.trod laidOut (by kernel_rfl) (of_decide_eq_true (by kernel_rfl)) h0k bel hlt0) (trodAll_cons_mk (shut_int Try.underlying3 w1) (trodAll_cons_mk (shut_int Try.underlying3 w2) trodAll_mk0))), rfl, bel.frame _, fun h => by cases h⟩

set_option maxRecDepth 100000 in
theorem lifted (os : Os) (started : os.Started) (H : Type) (enc : TypeId × Value → H) (F : Stop.Interp) :
    ReturnsInHanded {} Try.checked os 7 .any ((Rows.OpenSpec.upto Rows.pbufPicksSpec).pre6 enc Try.prog Try.f7 Rows.pbufPicksUptoRow.domain false) (((Rows.OpenSpec.upto Rows.pbufPicksSpec).at F).post enc Try.prog Try.f7 false true false false) := by
  refine returnsInHanded_of_cond (C := Try.checked) (s := Rows.OpenSpec.upto Rows.pbufPicksSpec) (k := Rows.uptoSmall) rfl own started (by kernel_rfl) Try.func7
    (OpenSpec.witness (enc := enc) (C := Try.checked) (s := Rows.OpenSpec.upto Rows.pbufPicksSpec) (k := Rows.uptoSmall) rfl false ⟨#[], #[.slice none 0 0, .int .i64 0, .int .i64 0], []⟩ 8 (by kernel_rfl) (by kernel_rfl) (by kernel_rfl)
      (x := ([.nil, .lit (.int .i64 0), .lit (.int .i64 0)], [], [])) (by kernel_rfl) rfl (by kernel_rfl)) ?_
  intro W base args ds gs before hval hW _ hk _
  exact contract H enc W base args ds gs before hval hW hk

theorem proved : Rows.PbufPicksUptoSaid :=
  OpenClaim.holds_of_cond 7 Try.f7 rfl rfl rfl rfl rfl rfl rfl ⟨rfl, rfl, rfl, rfl, rfl⟩ rfl rfl rfl rfl rfl (by kernel_rfl) Try.func7 (by kernel_rfl)
    (of_decide_eq_true (by kernel_rfl)) (by unfold Func.isWrapper; first | (rw [if_pos (by decide +kernel)]; kernel_rfl) | (rw [if_neg (by decide +kernel)]; exact ⟨rfl, rfl⟩))
    (fun os started H enc _ F => lifted os started H enc F)
#print axioms proved
end Go.Proofs.Ytbcmfgohbppndaa.pbufPicks
