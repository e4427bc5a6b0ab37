import Derived.Test.YtkjlhmojdffooaaGreatV47

/-
  Layer 7: what the code reads of an attribute.
-/
namespace Go.Proofs.YtkjlhmojdffooaaGreat
open Go.RowKit
set_option linter.unusedVariables false

theorem ownsRow_st {w0 w w' : World} {k n g : Nat} {e : TypeId} {v : Value} {xs : List Value} (h : w.ownsRow w0.heap.size e k v n xs) (s : Stay g w w') (hg : g < w0.heap.size) : w'.ownsRow w0.heap.size e k v n xs := ownsRow_stay h hg s
theorem field_T (a0 a1 a2 a3 a4 a5 : Value) (w : World) : Sem.run Tryz.prog (Instr.field 82 (.agg #[a0, a1, a2, a3, a4, a5]) 1) w = .ok (.agg #[a1, a2, a3, a4, a5]) w := by kernel_rfl
theorem dec4096 (n : Nat) : decide ((4096 : Int) < (n : Int)) = decide (4096 < n) := by rw [decide_eq_decide]; omega
theorem dec64 (n : Nat) : decide ((64 : Int) < (n : Int)) = decide (64 < n) := by rw [decide_eq_decide]; omega
theorem dec1024 (n : Nat) : decide ((1024 : Int) < (n : Int)) = decide (1024 < n) := by rw [decide_eq_decide]; omega
theorem AtIn.keptA {B : Nat} {w : World} {a : AtA} (h : AtIn B w a) : AtIn B w (keptA a) := by
  obtain ⟨h1, h2, h3, h4, h5, h6, h7, h8, h9⟩ := h
  have z1 : isB ([] : Str) := fun c hc => by cases hc
  have z2 : (Ints .u32 w none 0 [] ∧ Tag 84 B w none ([] : List Int).length) := ⟨nilInts _ _, Tag.nil _ _ _ _⟩
  have z3 : Ints .i64 w none 0 [] := nilInts _ _
  have z4 : Tag 2 B w none ([] : List Int).length := Tag.nil _ _ _ _
  unfold Go.Proofs.YtkjlhmojdffooaaGreat.keptA
  split
  · exact ⟨h1, h2, h3, rfl, z1, tenT_0 _ _, z2, z3, z4⟩
  · split
    · exact ⟨h1, h2, rfl, h4, z1, tenT_0 _ _, z2, z3, z4⟩
    · split
      · exact ⟨h1, h2, rfl, rfl, h5, tenT_0 _ _, z2, z3, z4⟩
      · split
        · exact ⟨h1, h2, rfl, rfl, z1, h6, z2, z3, z4⟩
        · split
          · exact ⟨h1, h2, rfl, rfl, z1, tenT_0 _ _, h7, z3, z4⟩
          · split
            · exact ⟨h1, h2, rfl, rfl, z1, tenT_0 _ _, z2, h8, h9⟩
            · exact ⟨z1, rfl, rfl, rfl, z1, tenT_0 _ _, z2, z3, z4⟩
theorem attr_tens {l : List Fld} (hi : inIs l 5 = true) (h : attrCF l = no3) : tensorCF (inL l 5) = no3 := by
  unfold attrCF at h
  simp only [no_iff] at h
  have := h.1.1.2
  rw [if_pos hi] at this
  exact this
theorem attr_kept {l : List Fld} {NM : Rd7 Str} {KD : Rd7 Int} {FV : Int} {IV : Rd7 Int} {TX : Rd7 Str} {FL IS : Rd7 (List Int)} {T : Ten} {A : TA} {qf qi : Option Addr} {cf ci : Nat} (h1 : nameP l 1 = NM) (h2 : wholeP l 20 = KD) (h3 : (lastF l 2 5).1.2.2.1 % 4294967296 = FV) (h4 : wholeP l 3 = IV) (h5 : textP l 4 = TX) (h6 : floatsP l 7 = FL) (h7 : intsP l 8 = IS) (hc : attrCF l = no3) (ht : (if inIs l 5 = true then (tensorC (inL l 5)).2 else noTen) = T) :
    (keptA ⟨NM.1, KD.1, FV, IV.1, TX.1, T, A, FL.1, qf, cf, IS.1, qi, ci⟩).d = attrC l := by
  have hk : kindB (wholeP l 20).1 = true := by
    unfold attrCF at hc
    simp only [no_iff, no_odd] at hc
    simpa using hc.1.2
  unfold attrC
  simp only
  rw [ht]
  subst h1 h2 h3 h4 h5 h6 h7
  unfold keptA AtA.d
  simp only
  generalize (wholeP l 20).1 = K at hk
  by_cases c1 : K = 1
  · subst c1; rfl
  by_cases c2 : K = 2
  · subst c2; rfl
  by_cases c3 : K = 3
  · subst c3; rfl
  by_cases c4 : K = 4
  · subst c4; rfl
  by_cases c6 : K = 6
  · subst c6; rfl
  by_cases c7 : K = 7
  · subst c7; rfl
  exact absurd hk (by simp [kindB, c1, c2, c3, c4, c6, c7])

set_option maxRecDepth 100000 in
set_option maxHeartbeats 32000000 in
theorem creadAttr_any (g : Nat) (q : Option Addr) (d : Nat) (L : List FA) (w : World) (hw : WstE g w) (h : MsIn g w q d L) :
    Calls Tryz.prog 177 #[msV q L.length d g] w fun e w' => Made (fun w x => AtIn 0 w x) (fun x => .agg (atCells x).toArray) g (fun x => attrCF (L.map FA.f) = no3 → x.d = attrC (L.map FA.f)) (attrCF (L.map FA.f)) w e w' := by
  have hok := ms_ok h
  have HNB : Hid (isB (nameP (L.map FA.f) 1).1) := hide (text_isB (fun a ha => wf_isB (h.1.2 a ha).2.2.2.2.2.1))
  have HTB : Hid (isB (textP (L.map FA.f) 4).1) := hide (text_isB (fun a ha => wf_isB (h.1.2 a ha).2.2.2.2.2.1))
  have HFW : Hid (∀ x ∈ (floatsP (L.map FA.f) 7).1, (Lit.int .u32 x).wf = true) := hide (fun x hx => u32_wf7 (floats_ok hok 7 x hx).1 (floats_ok hok 7 x hx).2)
  have HIW : Hid (∀ x ∈ (intsP (L.map FA.f) 8).1, (Lit.int .i64 x).wf = true) := hide (fun x hx => i64_wf7 (ints_ok _ 8 x hx))
  have HKW : Hid ((Lit.int .i64 (wholeP (L.map FA.f) 20).1).wf = true) := hide (i64w_wf _)
  have HIVW : Hid ((Lit.int .i64 (wholeP (L.map FA.f) 3).1).wf = true) := hide (i64w_wf _)
  have HFV2 : Hid ((Lit.int .u32 ((lastF (L.map FA.f) 2 5).1.2.2.1 % 4294967296)).wf = true) := hide (u32_wf7 (Int.emod_nonneg _ (by decide)) (Int.emod_lt_of_pos _ (by decide)))
  obtain ⟨l, hl⟩ : ∃ l, L.map FA.f = l := ⟨_, rfl⟩
  have B0 := hide (al2p w (Obj.cells #[.slice q L.length d, .pointer (some ⟨g, 0, none⟩)] 58) (Obj.cells #[.string { data := #[] }, .int .i64 0, .int .u32 0, .int .i64 0, .string { data := #[] }, .int .i64 0, .slice none 0 0, .slice none 0 0, .slice none 0 0, .slice none 0 0, .slice none 0 0, .slice none 0 0] 86))
  have X0 := hide (Box.alloc (Box.new w #[.slice q L.length d, .pointer (some ⟨g, 0, none⟩)] 58) (Obj.cells #[.string { data := #[] }, .int .i64 0, .int .u32 0, .int .i64 0, .string { data := #[] }, .int .i64 0, .slice none 0 0, .slice none 0 0, .slice none 0 0, .slice none 0 0, .slice none 0 0, .slice none 0 0] 86))
  have Y0 : Hid (Box ((w.alloc (Obj.cells #[.slice q L.length d, .pointer (some ⟨g, 0, none⟩)] 58)).alloc (Obj.cells #[.string { data := #[] }, .int .i64 0, .int .u32 0, .int .i64 0, .string { data := #[] }, .int .i64 0, .slice none 0 0, .slice none 0 0, .slice none 0 0, .slice none 0 0, .slice none 0 0, .slice none 0 0] 86)) (w.heap.size + 1) #[.string { data := #[] }, .int .i64 0, .int .u32 0, .int .i64 0, .string { data := #[] }, .int .i64 0, .slice none 0 0, .slice none 0 0, .slice none 0 0, .slice none 0 0, .slice none 0 0, .slice none 0 0] 86) := hide (by have h := Box.new (w.alloc (Obj.cells #[.slice q L.length d, .pointer (some ⟨g, 0, none⟩)] 58)) #[.string { data := #[] }, .int .i64 0, .int .u32 0, .int .i64 0, .string { data := #[] }, .int .i64 0, .slice none 0 0, .slice none 0 0, .slice none 0 0, .slice none 0 0, .slice none 0 0, .slice none 0 0] 86; rw [alloc_size6] at h; exact h)
  have HW := hide hw
  have gl := hw.lt
  have HM := hide h
  have n1 : w.heap.size ≠ g := by omega
  clear hw h hok
  rw [hl] at HNB HTB HFW HIW HKW HIVW HFV2 ⊢
  have HL0 := hide hl
  unfold msV
  have R0 := hide (RE.below (unhide B0) (unhide HW))
  have NW := hide (Rn.refl ((unhide HW).below (unhide B0)))
  have HM0 := hide ((unhide HM).stay (unhide R0).1)
  have x0 := (unhide X0).cell
  go_enter Tryz.func177, Tryz.ntmps177
  go_wp2_with fail
  generalize (w.alloc (Obj.cells #[.slice q L.length d, .pointer (some ⟨g, 0, none⟩)] 58)).alloc (Obj.cells #[.string { data := #[] }, .int .i64 0, .int .u32 0, .int .i64 0, .string { data := #[] }, .int .i64 0, .slice none 0 0, .slice none 0 0, .slice none 0 0, .slice none 0 0, .slice none 0 0, .slice none 0 0] 86) = W0 at B0 X0 Y0 R0 NW HM0 x0 ⊢
  have l0 := (unhide Y0).lt
  have gl6 : g < W0.heap.size := by omega
  have N0 := hide (unhide NW).dr
  have N0a := hide ((unhide NW).al (Obj.cells #[.string { data := #[] }, .int .i64 0, .int .u32 0, .int .i64 0, .string { data := #[] }, .int .i64 0, .slice none 0 0, .slice none 0 0, .slice none 0 0, .slice none 0 0, .slice none 0 0, .slice none 0 0] 86)).dr
  have C1 := hide (fun v (hn : Rx g W0 v) => cnam_any g q d L 1 v hn.wst (hn.ms (unhide HM0)))
  have C2 := hide (fun v (hn : Rx g W0 v) => cnum_any g q d L 20 v hn.wst (hn.ms (unhide HM0)))
  have C3 := hide (fun v (hn : Rx g W0 v) => cflt_any g q d L 2 v hn.wst (hn.ms (unhide HM0)))
  have C4 := hide (fun v (hn : Rx g W0 v) => cnum_any g q d L 3 v hn.wst (hn.ms (unhide HM0)))
  have C5 := hide (fun v (hn : Rx g W0 v) => ctxt_any g q d L 4 v hn.wst (hn.ms (unhide HM0)))
  have C6 := hide (fun v (hn : Rx g W0 v) => cflts_any g q d L 7 v hn.wst (hn.ms (unhide HM0)))
  have C7 := hide (fun v (hn : Rx g W0 v) => cnums_any g q d L 8 v hn.wst (hn.ms (unhide HM0)))
  have CL := hide (fun size most v (hn : Rx g W0 v) => climit_any g q L.length d size most v hn.wst)
  have CI := hide (fun v (hn : Rx g W0 v) => cinnerm_any g q d L 5 v hn.wst (hn.ms (unhide HM0)))
  have CB := hide (fun is v (hn : Rx g W0 v) => cnote_bad g q L.length d is v hn.wst)
  have CO := hide (fun is v (hn : Rx g W0 v) => cnote_odd g q L.length d is v hn.wst)
  rw [hl] at C1 C2 C3 C4 C5 C6 C7
  clear hl
  obtain ⟨NM, hNM⟩ : ∃ N, nameP l 1 = N := ⟨_, rfl⟩
  have HNM := hide hNM
  rw [hNM] at C1 HNB
  clear hNM
  obtain ⟨KD, hKD⟩ : ∃ N, wholeP l 20 = N := ⟨_, rfl⟩
  have HKD := hide hKD
  rw [hKD] at C2 HKW
  clear hKD
  obtain ⟨FV, hFV⟩ : ∃ N, (lastF l 2 5).1.2.2.1 % 4294967296 = N := ⟨_, rfl⟩
  have HFV := hide hFV
  rw [hFV] at C3 HFV2
  clear hFV
  obtain ⟨FF, hFF⟩ : ∃ N, (lastF l 2 5).2 = N := ⟨_, rfl⟩
  have HFF := hide hFF
  rw [hFF] at C3
  clear hFF
  obtain ⟨IV, hIV⟩ : ∃ N, wholeP l 3 = N := ⟨_, rfl⟩
  have HIV := hide hIV
  rw [hIV] at C4 HIVW
  clear hIV
  obtain ⟨TX, hTX⟩ : ∃ N, textP l 4 = N := ⟨_, rfl⟩
  have HTX := hide hTX
  rw [hTX] at C5 HTB
  clear hTX
  obtain ⟨FL, hFL⟩ : ∃ N, floatsP l 7 = N := ⟨_, rfl⟩
  have HFL := hide hFL
  rw [hFL] at C6 HFW
  clear hFL
  obtain ⟨IS, hIS⟩ : ∃ N, intsP l 8 = N := ⟨_, rfl⟩
  have HIS := hide hIS
  rw [hIS] at C7 HIW
  clear hIS
  unfold msV at C1 C2 C3 C4 C5 C6 C7 CL CI CB CO
  unfold strV at C1 C5
  unfold OwnS at C6 C7
  refine' cut7_4 _ (fun β F (q6 : Option Addr) (d6 : Nat) (q7 : Option Addr) (d7 : Nat) => Hid (Rn g (f3 (f3 (f3 (f3 (f3 (f3 (f3 no3 NM.2) KD.2) FF) IV.2) TX.2) FL.2) IS.2) W0 F ∧ (Ints .u32 F q6 d6 FL.1 ∧ Tag 84 0 F q6 FL.1.length) ∧ (Ints .i64 F q7 d7 IS.1 ∧ Tag 2 0 F q7 IS.1.length) ∧ Box F β #[.string (strOfNums NM.1), .int .i64 KD.1, .int .u32 FV, .int .i64 IV.1, .string (strOfNums TX.1), .int .i64 0, .slice none 0 0, .slice none 0 0, .slice none 0 0, .slice none 0 0, .slice q6 FL.1.length d6, .slice q7 IS.1.length d7] 86 ∧ W0.heap.size ≤ β)) ?main ?kk
  case main =>
    intro key
    go_region_held3 (fun v => (∀ j, v.cell? ⟨w.heap.size, j, none⟩ = (#[.slice q L.length d, .pointer (some ⟨g, 0, none⟩)] : Array Value)[j]?)) (first | with_reducible assumption | with_reducible exact Rn.cells1 (unhide N7) (unhide X0) n1 | with_reducible exact Rn.cells1 ((unhide N7).al _) (unhide X0) n1 | with_reducible exact Rn.cells1 (unhide N6) (unhide X0) n1 | with_reducible exact Rn.cells1 ((unhide N6).al _) (unhide X0) n1 | with_reducible exact Rn.cells1 (unhide N5) (unhide X0) n1 | with_reducible exact Rn.cells1 ((unhide N5).al _) (unhide X0) n1 | with_reducible exact Rn.cells1 (unhide N4) (unhide X0) n1 | with_reducible exact Rn.cells1 ((unhide N4).al _) (unhide X0) n1 | with_reducible exact Rn.cells1 (unhide N3) (unhide X0) n1 | with_reducible exact Rn.cells1 ((unhide N3).al _) (unhide X0) n1 | with_reducible exact Rn.cells1 (unhide N2) (unhide X0) n1 | with_reducible exact Rn.cells1 ((unhide N2).al _) (unhide X0) n1 | with_reducible exact Rn.cells1 (unhide N1) (unhide X0) n1 | with_reducible exact Rn.cells1 ((unhide N1).al _) (unhide X0) n1 | with_reducible exact Rn.cells1 (unhide N0) (unhide X0) n1 | with_reducible exact Rn.cells1 (unhide N0a) (unhide X0) n1)
      (first
        | (go_at_call 181; (have nx := N6; clear nx; refine (unhide C7 _ ?_).mono ?_; (focus (first | with_reducible exact (unhide N6).x | with_reducible exact ((unhide N6).al (Obj.cells #[.string { data := #[] }, .int .i64 0, .int .u32 0, .int .i64 0, .string { data := #[] }, .int .i64 0, .slice none 0 0, .slice none 0 0, .slice none 0 0, .slice none 0 0, .slice none 0 0, .slice none 0 0] 86)).x)); rintro e w7 ⟨v7, rfl, hq⟩; obtain ⟨g7, hr⟩ := unhide hq; obtain ⟨q7, d7, e7⟩ := own_form7 g7; subst e7; (first | (have N7 := hide ((unhide N6).re hr); have T7 : Hid (Stay g w6 w7) := hide hr.1) | (have N7 := hide (((unhide N6).al (Obj.cells #[.string { data := #[] }, .int .i64 0, .int .u32 0, .int .i64 0, .string { data := #[] }, .int .i64 0, .slice none 0 0, .slice none 0 0, .slice none 0 0, .slice none 0 0, .slice none 0 0, .slice none 0 0] 86)).re hr); have T7 : Hid (Stay g w6 w7) := hide ((Stay.below (al1p w6 _) (by have := (unhide N6).2.lt; omega)).trans hr.1))); (first | have V7 := hide (And.intro (hr.1.box (unhide V6).1 (by have := (unhide V6).2; omega)) (unhide V6).2) | have V7 := hide (And.intro (hr.1.box (Box.new w6 #[.string { data := #[] }, .int .i64 0, .int .u32 0, .int .i64 0, .string { data := #[] }, .int .i64 0, .slice none 0 0, .slice none 0 0, .slice none 0 0, .slice none 0 0, .slice none 0 0, .slice none 0 0] 86) (by have := (unhide N6).size; omega)) (unhide N6).size) | skip); (first | (have vn := (unhide V7).1.cell; have vf := (unhide V7).1.frozen; have vz := Rn.cells1 (Rn.store12 (unhide N7) (Below.refl _ _) (unhide V7).1 (unhide V7).2 gl6 (.string (strOfNums NM.1)) (.int .i64 KD.1) (.int .u32 FV) (.int .i64 IV.1) (.string (strOfNums TX.1)) (.int .i64 0) (.slice none 0 0) (.slice none 0 0) (.slice none 0 0) (.slice none 0 0) (.slice q6 FL.1.length d6) (.slice q7 IS.1.length d7)).1 (unhide X0) n1) | skip); have l7 := (unhide N7).size; have O7 := hide g7; clear hq g7; clear hr))
        | (go_at_call 229; (have nx := N5; clear nx; refine (unhide C6 _ ?_).mono ?_; (focus (first | with_reducible exact (unhide N5).x | with_reducible exact ((unhide N5).al (Obj.cells #[.string { data := #[] }, .int .i64 0, .int .u32 0, .int .i64 0, .string { data := #[] }, .int .i64 0, .slice none 0 0, .slice none 0 0, .slice none 0 0, .slice none 0 0, .slice none 0 0, .slice none 0 0] 86)).x)); rintro e w6 ⟨v6, rfl, hq⟩; obtain ⟨g6, hr⟩ := unhide hq; obtain ⟨q6, d6, e6⟩ := own_form7 g6; subst e6; (first | (have N6 := hide ((unhide N5).re hr); have T6 : Hid (Stay g w5 w6) := hide hr.1) | (have N6 := hide (((unhide N5).al (Obj.cells #[.string { data := #[] }, .int .i64 0, .int .u32 0, .int .i64 0, .string { data := #[] }, .int .i64 0, .slice none 0 0, .slice none 0 0, .slice none 0 0, .slice none 0 0, .slice none 0 0, .slice none 0 0] 86)).re hr); have T6 : Hid (Stay g w5 w6) := hide ((Stay.below (al1p w5 _) (by have := (unhide N5).2.lt; omega)).trans hr.1))); (first | have V6 := hide (And.intro (hr.1.box (unhide V5).1 (by have := (unhide V5).2; omega)) (unhide V5).2) | have V6 := hide (And.intro (hr.1.box (Box.new w5 #[.string { data := #[] }, .int .i64 0, .int .u32 0, .int .i64 0, .string { data := #[] }, .int .i64 0, .slice none 0 0, .slice none 0 0, .slice none 0 0, .slice none 0 0, .slice none 0 0, .slice none 0 0] 86) (by have := (unhide N5).size; omega)) (unhide N5).size) | skip); have l6 := (unhide N6).size; have O6 : Hid (w6.ownsRow W0.heap.size 84 1 (.slice q6 FL.1.length d6) FL.1.length (FL.1.map (Value.int .u32))) := hide (ownsRow_base g6 (by first | exact (unhide N5).size | exact ((unhide N5).al _).size)); clear hq g6; clear hr))
        | (go_at_call 115; (have nx := N4; clear nx; refine (unhide C5 _ ?_).mono ?_; (focus (first | with_reducible exact (unhide N4).x | with_reducible exact ((unhide N4).al (Obj.cells #[.string { data := #[] }, .int .i64 0, .int .u32 0, .int .i64 0, .string { data := #[] }, .int .i64 0, .slice none 0 0, .slice none 0 0, .slice none 0 0, .slice none 0 0, .slice none 0 0, .slice none 0 0] 86)).x)); rintro e w5 ⟨rfl, hr⟩; (first | (have N5 := hide ((unhide N4).re hr); have T5 : Hid (Stay g w4 w5) := hide hr.1) | (have N5 := hide (((unhide N4).al (Obj.cells #[.string { data := #[] }, .int .i64 0, .int .u32 0, .int .i64 0, .string { data := #[] }, .int .i64 0, .slice none 0 0, .slice none 0 0, .slice none 0 0, .slice none 0 0, .slice none 0 0, .slice none 0 0] 86)).re hr); have T5 : Hid (Stay g w4 w5) := hide ((Stay.below (al1p w4 _) (by have := (unhide N4).2.lt; omega)).trans hr.1))); (first | have V5 := hide (And.intro (hr.1.box (unhide V4).1 (by have := (unhide V4).2; omega)) (unhide V4).2) | have V5 := hide (And.intro (hr.1.box (Box.new w4 #[.string { data := #[] }, .int .i64 0, .int .u32 0, .int .i64 0, .string { data := #[] }, .int .i64 0, .slice none 0 0, .slice none 0 0, .slice none 0 0, .slice none 0 0, .slice none 0 0, .slice none 0 0] 86) (by have := (unhide N4).size; omega)) (unhide N4).size) | skip); have l5 := (unhide N5).size; skip; clear hr))
        | (go_at_call 57; (have nx := N3; clear nx; refine (unhide C4 _ ?_).mono ?_; (focus (first | with_reducible exact (unhide N3).x | with_reducible exact ((unhide N3).al (Obj.cells #[.string { data := #[] }, .int .i64 0, .int .u32 0, .int .i64 0, .string { data := #[] }, .int .i64 0, .slice none 0 0, .slice none 0 0, .slice none 0 0, .slice none 0 0, .slice none 0 0, .slice none 0 0] 86)).x)); rintro e w4 ⟨rfl, hr⟩; (first | (have N4 := hide ((unhide N3).re hr); have T4 : Hid (Stay g w3 w4) := hide hr.1) | (have N4 := hide (((unhide N3).al (Obj.cells #[.string { data := #[] }, .int .i64 0, .int .u32 0, .int .i64 0, .string { data := #[] }, .int .i64 0, .slice none 0 0, .slice none 0 0, .slice none 0 0, .slice none 0 0, .slice none 0 0, .slice none 0 0] 86)).re hr); have T4 : Hid (Stay g w3 w4) := hide ((Stay.below (al1p w3 _) (by have := (unhide N3).2.lt; omega)).trans hr.1))); (first | have V4 := hide (And.intro (hr.1.box (unhide V3).1 (by have := (unhide V3).2; omega)) (unhide V3).2) | have V4 := hide (And.intro (hr.1.box (Box.new w3 #[.string { data := #[] }, .int .i64 0, .int .u32 0, .int .i64 0, .string { data := #[] }, .int .i64 0, .slice none 0 0, .slice none 0 0, .slice none 0 0, .slice none 0 0, .slice none 0 0, .slice none 0 0] 86) (by have := (unhide N3).size; omega)) (unhide N3).size) | skip); have l4 := (unhide N4).size; skip; clear hr))
        | (go_at_call 228; (have nx := N2; clear nx; refine (unhide C3 _ ?_).mono ?_; (focus (first | with_reducible exact (unhide N2).x | with_reducible exact ((unhide N2).al (Obj.cells #[.string { data := #[] }, .int .i64 0, .int .u32 0, .int .i64 0, .string { data := #[] }, .int .i64 0, .slice none 0 0, .slice none 0 0, .slice none 0 0, .slice none 0 0, .slice none 0 0, .slice none 0 0] 86)).x)); rintro e w3 ⟨rfl, hr⟩; (first | (have N3 := hide ((unhide N2).re hr); have T3 : Hid (Stay g w2 w3) := hide hr.1) | (have N3 := hide (((unhide N2).al (Obj.cells #[.string { data := #[] }, .int .i64 0, .int .u32 0, .int .i64 0, .string { data := #[] }, .int .i64 0, .slice none 0 0, .slice none 0 0, .slice none 0 0, .slice none 0 0, .slice none 0 0, .slice none 0 0] 86)).re hr); have T3 : Hid (Stay g w2 w3) := hide ((Stay.below (al1p w2 _) (by have := (unhide N2).2.lt; omega)).trans hr.1))); (first | have V3 := hide (And.intro (hr.1.box (unhide V2).1 (by have := (unhide V2).2; omega)) (unhide V2).2) | have V3 := hide (And.intro (hr.1.box (Box.new w2 #[.string { data := #[] }, .int .i64 0, .int .u32 0, .int .i64 0, .string { data := #[] }, .int .i64 0, .slice none 0 0, .slice none 0 0, .slice none 0 0, .slice none 0 0, .slice none 0 0, .slice none 0 0] 86) (by have := (unhide N2).size; omega)) (unhide N2).size) | skip); have l3 := (unhide N3).size; skip; clear hr))
        | (go_at_call 57; (have nx := N1; clear nx; refine (unhide C2 _ ?_).mono ?_; (focus (first | with_reducible exact (unhide N1).x | with_reducible exact ((unhide N1).al (Obj.cells #[.string { data := #[] }, .int .i64 0, .int .u32 0, .int .i64 0, .string { data := #[] }, .int .i64 0, .slice none 0 0, .slice none 0 0, .slice none 0 0, .slice none 0 0, .slice none 0 0, .slice none 0 0] 86)).x)); rintro e w2 ⟨rfl, hr⟩; (first | (have N2 := hide ((unhide N1).re hr); have T2 : Hid (Stay g w1 w2) := hide hr.1) | (have N2 := hide (((unhide N1).al (Obj.cells #[.string { data := #[] }, .int .i64 0, .int .u32 0, .int .i64 0, .string { data := #[] }, .int .i64 0, .slice none 0 0, .slice none 0 0, .slice none 0 0, .slice none 0 0, .slice none 0 0, .slice none 0 0] 86)).re hr); have T2 : Hid (Stay g w1 w2) := hide ((Stay.below (al1p w1 _) (by have := (unhide N1).2.lt; omega)).trans hr.1))); (first | have V2 := hide (And.intro (hr.1.box (unhide V1).1 (by have := (unhide V1).2; omega)) (unhide V1).2) | have V2 := hide (And.intro (hr.1.box (Box.new w1 #[.string { data := #[] }, .int .i64 0, .int .u32 0, .int .i64 0, .string { data := #[] }, .int .i64 0, .slice none 0 0, .slice none 0 0, .slice none 0 0, .slice none 0 0, .slice none 0 0, .slice none 0 0] 86) (by have := (unhide N1).size; omega)) (unhide N1).size) | skip); have l2 := (unhide N2).size; skip; clear hr))
        | (go_at_call 117; (have nx := N0; clear nx; refine (unhide C1 _ ?_).mono ?_; (focus (first | with_reducible exact (unhide N0).x | with_reducible exact (unhide N0a).x)); rintro e w1 ⟨rfl, hr⟩; (first | have N1 := hide ((unhide N0).re hr) | have N1 := hide ((unhide N0a).re hr)); (first | have V1 := hide (And.intro (hr.1.box ((Box.new W0 #[.string { data := #[] }, .int .i64 0, .int .u32 0, .int .i64 0, .string { data := #[] }, .int .i64 0, .slice none 0 0, .slice none 0 0, .slice none 0 0, .slice none 0 0, .slice none 0 0, .slice none 0 0] 86).below (bdrewp _)) (by omega)) (Nat.le_refl W0.heap.size)) | skip); have l1 := (unhide N1).size; skip; clear hr)))
    · have STO := hide (And.intro ((unhide N7).al (Obj.cells #[.string (strOfNums NM.1), .int .i64 KD.1, .int .u32 FV, .int .i64 IV.1, .string (strOfNums TX.1), .int .i64 0, .slice none 0 0, .slice none 0 0, .slice none 0 0, .slice none 0 0, .slice q6 FL.1.length d6, .slice q7 IS.1.length d7] 86)) (And.intro (Box.new w7 #[.string (strOfNums NM.1), .int .i64 KD.1, .int .u32 FV, .int .i64 IV.1, .string (strOfNums TX.1), .int .i64 0, .slice none 0 0, .slice none 0 0, .slice none 0 0, .slice none 0 0, .slice q6 FL.1.length d6, .slice q7 IS.1.length d7] 86) (fun (TS : List TypeId) (ht : ¬ 86 ∈ TS) => (Kept.below (al1p w7 (Obj.cells #[.string (strOfNums NM.1), .int .i64 KD.1, .int .u32 FV, .int .i64 IV.1, .string (strOfNums TX.1), .int .i64 0, .slice none 0 0, .slice none 0 0, .slice none 0 0, .slice none 0 0, .slice q6 FL.1.length d6, .slice q7 IS.1.length d7] 86)) : Kept TS 0 w7 _))))
      have KK := hide ((unhide STO).2.2 tenTS (by decide))
      have KF := hide (And.intro (unhide STO).1 (And.intro (And.intro (((own_ls (ownsRow_st (unhide O6) (unhide T7) gl6) rfl).ints (unhide HFW)).keptT (own_tag (ownsRow_st (unhide O6) (unhide T7) gl6)) (by simp [tenTS]) (unhide KK)) ((own_tag (ownsRow_st (unhide O6) (unhide T7) gl6)).kept (by simp [tenTS]) (unhide KK))) (And.intro (And.intro (((own_ls (unhide O7) rfl).ints (unhide HIW)).keptT (own_tag (unhide O7)) (by simp [tenTS]) (unhide KK)) ((own_tag (unhide O7)).kept (by simp [tenTS]) (unhide KK))) (And.intro (unhide STO).2.1 (unhide N7).size))))
      clear STO KK
      generalize (w7.alloc (Obj.cells #[.string (strOfNums NM.1), .int .i64 KD.1, .int .u32 FV, .int .i64 IV.1, .string (strOfNums TX.1), .int .i64 0, .slice none 0 0, .slice none 0 0, .slice none 0 0, .slice none 0 0, .slice q6 FL.1.length d6, .slice q7 IS.1.length d7] 86)) = F at KF ⊢; generalize w7.heap.size = β at KF ⊢; exact key β F q6 d6 q7 d7 KF
    · have STO := hide (Rn.store12 (unhide N7) (Below.refl _ _) (unhide V7).1 (unhide V7).2 gl6 (.string (strOfNums NM.1)) (.int .i64 KD.1) (.int .u32 FV) (.int .i64 IV.1) (.string (strOfNums TX.1)) (.int .i64 0) (.slice none 0 0) (.slice none 0 0) (.slice none 0 0) (.slice none 0 0) (.slice q6 FL.1.length d6) (.slice q7 IS.1.length d7))
      have KK := hide ((unhide STO).2.2 tenTS (by decide))
      have KF := hide (And.intro (unhide STO).1 (And.intro (And.intro (((own_ls (ownsRow_st (unhide O6) (unhide T7) gl6) rfl).ints (unhide HFW)).keptT (own_tag (ownsRow_st (unhide O6) (unhide T7) gl6)) (by simp [tenTS]) (unhide KK)) ((own_tag (ownsRow_st (unhide O6) (unhide T7) gl6)).kept (by simp [tenTS]) (unhide KK))) (And.intro (And.intro (((own_ls (unhide O7) rfl).ints (unhide HIW)).keptT (own_tag (unhide O7)) (by simp [tenTS]) (unhide KK)) ((own_tag (unhide O7)).kept (by simp [tenTS]) (unhide KK))) (And.intro (unhide STO).2.1 (unhide V7).2))))
      clear STO KK
      exact key _ _ q6 d6 q7 d7 KF
    · have STO := hide (Rn.store12 (unhide N7) (Below.refl _ _) (unhide V7).1 (unhide V7).2 gl6 (.string (strOfNums NM.1)) (.int .i64 KD.1) (.int .u32 FV) (.int .i64 IV.1) (.string (strOfNums TX.1)) (.int .i64 0) (.slice none 0 0) (.slice none 0 0) (.slice none 0 0) (.slice none 0 0) (.slice q6 FL.1.length d6) (.slice q7 IS.1.length d7))
      have KK := hide ((unhide STO).2.2 tenTS (by decide))
      have KF := hide (And.intro (unhide STO).1 (And.intro (And.intro (((own_ls (ownsRow_st (unhide O6) (unhide T7) gl6) rfl).ints (unhide HFW)).keptT (own_tag (ownsRow_st (unhide O6) (unhide T7) gl6)) (by simp [tenTS]) (unhide KK)) ((own_tag (ownsRow_st (unhide O6) (unhide T7) gl6)).kept (by simp [tenTS]) (unhide KK))) (And.intro (And.intro (((own_ls (unhide O7) rfl).ints (unhide HIW)).keptT (own_tag (unhide O7)) (by simp [tenTS]) (unhide KK)) ((own_tag (unhide O7)).kept (by simp [tenTS]) (unhide KK))) (And.intro (unhide STO).2.1 (unhide V7).2))))
      clear STO KK
      exact key _ _ q6 d6 q7 d7 KF
    · have STO := hide (Rn.store12 (unhide N7) (Below.refl _ _) (unhide V7).1 (unhide V7).2 gl6 (.string (strOfNums NM.1)) (.int .i64 KD.1) (.int .u32 FV) (.int .i64 IV.1) (.string (strOfNums TX.1)) (.int .i64 0) (.slice none 0 0) (.slice none 0 0) (.slice none 0 0) (.slice none 0 0) (.slice q6 FL.1.length d6) (.slice q7 IS.1.length d7))
      have KK := hide ((unhide STO).2.2 tenTS (by decide))
      have KF := hide (And.intro (unhide STO).1 (And.intro (And.intro (((own_ls (ownsRow_st (unhide O6) (unhide T7) gl6) rfl).ints (unhide HFW)).keptT (own_tag (ownsRow_st (unhide O6) (unhide T7) gl6)) (by simp [tenTS]) (unhide KK)) ((own_tag (ownsRow_st (unhide O6) (unhide T7) gl6)).kept (by simp [tenTS]) (unhide KK))) (And.intro (And.intro (((own_ls (unhide O7) rfl).ints (unhide HIW)).keptT (own_tag (unhide O7)) (by simp [tenTS]) (unhide KK)) ((own_tag (unhide O7)).kept (by simp [tenTS]) (unhide KK))) (And.intro (unhide STO).2.1 (unhide V7).2))))
      clear STO KK
      exact key _ _ q6 d6 q7 d7 KF
    · have STO := hide (Rn.store12 (unhide N7) (Below.refl _ _) (unhide V7).1 (unhide V7).2 gl6 (.string (strOfNums NM.1)) (.int .i64 KD.1) (.int .u32 FV) (.int .i64 IV.1) (.string (strOfNums TX.1)) (.int .i64 0) (.slice none 0 0) (.slice none 0 0) (.slice none 0 0) (.slice none 0 0) (.slice q6 FL.1.length d6) (.slice q7 IS.1.length d7))
      have KK := hide ((unhide STO).2.2 tenTS (by decide))
      have KF := hide (And.intro (unhide STO).1 (And.intro (And.intro (((own_ls (ownsRow_st (unhide O6) (unhide T7) gl6) rfl).ints (unhide HFW)).keptT (own_tag (ownsRow_st (unhide O6) (unhide T7) gl6)) (by simp [tenTS]) (unhide KK)) ((own_tag (ownsRow_st (unhide O6) (unhide T7) gl6)).kept (by simp [tenTS]) (unhide KK))) (And.intro (And.intro (((own_ls (unhide O7) rfl).ints (unhide HIW)).keptT (own_tag (unhide O7)) (by simp [tenTS]) (unhide KK)) ((own_tag (unhide O7)).kept (by simp [tenTS]) (unhide KK))) (And.intro (unhide STO).2.1 (unhide V7).2))))
      clear STO KK
      exact key _ _ q6 d6 q7 d7 KF
    · have STO := hide (Rn.store12 (unhide N7) (Below.refl _ _) (unhide V7).1 (unhide V7).2 gl6 (.string (strOfNums NM.1)) (.int .i64 KD.1) (.int .u32 FV) (.int .i64 IV.1) (.string (strOfNums TX.1)) (.int .i64 0) (.slice none 0 0) (.slice none 0 0) (.slice none 0 0) (.slice none 0 0) (.slice q6 FL.1.length d6) (.slice q7 IS.1.length d7))
      have KK := hide ((unhide STO).2.2 tenTS (by decide))
      have KF := hide (And.intro (unhide STO).1 (And.intro (And.intro (((own_ls (ownsRow_st (unhide O6) (unhide T7) gl6) rfl).ints (unhide HFW)).keptT (own_tag (ownsRow_st (unhide O6) (unhide T7) gl6)) (by simp [tenTS]) (unhide KK)) ((own_tag (ownsRow_st (unhide O6) (unhide T7) gl6)).kept (by simp [tenTS]) (unhide KK))) (And.intro (And.intro (((own_ls (unhide O7) rfl).ints (unhide HIW)).keptT (own_tag (unhide O7)) (by simp [tenTS]) (unhide KK)) ((own_tag (unhide O7)).kept (by simp [tenTS]) (unhide KK))) (And.intro (unhide STO).2.1 (unhide V7).2))))
      clear STO KK
      exact key _ _ q6 d6 q7 d7 KF
    · have STO := hide (Rn.store12 (unhide N7) (Below.refl _ _) (unhide V7).1 (unhide V7).2 gl6 (.string (strOfNums NM.1)) (.int .i64 KD.1) (.int .u32 FV) (.int .i64 IV.1) (.string (strOfNums TX.1)) (.int .i64 0) (.slice none 0 0) (.slice none 0 0) (.slice none 0 0) (.slice none 0 0) (.slice q6 FL.1.length d6) (.slice q7 IS.1.length d7))
      have KK := hide ((unhide STO).2.2 tenTS (by decide))
      have KF := hide (And.intro (unhide STO).1 (And.intro (And.intro (((own_ls (ownsRow_st (unhide O6) (unhide T7) gl6) rfl).ints (unhide HFW)).keptT (own_tag (ownsRow_st (unhide O6) (unhide T7) gl6)) (by simp [tenTS]) (unhide KK)) ((own_tag (ownsRow_st (unhide O6) (unhide T7) gl6)).kept (by simp [tenTS]) (unhide KK))) (And.intro (And.intro (((own_ls (unhide O7) rfl).ints (unhide HIW)).keptT (own_tag (unhide O7)) (by simp [tenTS]) (unhide KK)) ((own_tag (unhide O7)).kept (by simp [tenTS]) (unhide KK))) (And.intro (unhide STO).2.1 (unhide V7).2))))
      clear STO KK
      exact key _ _ q6 d6 q7 d7 KF
    · have STO := hide (Rn.store12 (unhide N7) (Below.refl _ _) (unhide V7).1 (unhide V7).2 gl6 (.string (strOfNums NM.1)) (.int .i64 KD.1) (.int .u32 FV) (.int .i64 IV.1) (.string (strOfNums TX.1)) (.int .i64 0) (.slice none 0 0) (.slice none 0 0) (.slice none 0 0) (.slice none 0 0) (.slice q6 FL.1.length d6) (.slice q7 IS.1.length d7))
      have KK := hide ((unhide STO).2.2 tenTS (by decide))
      have KF := hide (And.intro (unhide STO).1 (And.intro (And.intro (((own_ls (ownsRow_st (unhide O6) (unhide T7) gl6) rfl).ints (unhide HFW)).keptT (own_tag (ownsRow_st (unhide O6) (unhide T7) gl6)) (by simp [tenTS]) (unhide KK)) ((own_tag (ownsRow_st (unhide O6) (unhide T7) gl6)).kept (by simp [tenTS]) (unhide KK))) (And.intro (And.intro (((own_ls (unhide O7) rfl).ints (unhide HIW)).keptT (own_tag (unhide O7)) (by simp [tenTS]) (unhide KK)) ((own_tag (unhide O7)).kept (by simp [tenTS]) (unhide KK))) (And.intro (unhide STO).2.1 (unhide V7).2))))
      clear STO KK
      exact key _ _ q6 d6 q7 d7 KF
  case kk =>
    intro β F q6 d6 q7 d7 KF
    obtain ⟨hN, hQ6, hQ7, hV, lb⟩ := unhide KF
    have N7 := hide hN
    have Q6 := hide hQ6
    have Q7 := hide hQ7
    have VB7 := hide hV
    have KP7 : Hid (Kept tenTS 0 F F) := hide (Kept.below (Below.refl _ _))
    have nb : β ≠ g := by omega
    have v7 := (unhide VB7).cell
    have x7 := (unhide N7).cells1 (unhide X0) n1
    clear KF hN hQ6 hQ7 hV
    go_wp2_with fail
    refine (unhide CL _ _ _ (unhide N7).x).mono ?_
    rintro e w8 ⟨rfl, hr⟩
    have N8 := hide ((unhide N7).re hr)
    have VB8 := hide (hr.1.box (unhide VB7) nb)
    have KP8 : Hid (Kept tenTS 0 F w8) := hide ((unhide KP7).trans (hr.1.keptT (Nat.zero_le g) (unhide N7).2 (by decide)))
    have v8 := (unhide VB8).cell
    have va8 := fun o => ((unhide VB8).alloc o).cell
    have x8 := (unhide N8).cells1 (unhide X0) n1
    have xa8 := fun o => ((unhide N8).al o).cells1 (unhide X0) n1
    clear hr
    go_wp2_with fail
    refine (unhide CL _ _ _ (unhide N8).x).mono ?_
    rintro e w9 ⟨rfl, hr⟩
    have N9 := hide ((unhide N8).re hr)
    have VB9 := hide (hr.1.box (unhide VB8) nb)
    have KP9 : Hid (Kept tenTS 0 F w9) := hide ((unhide KP8).trans (hr.1.keptT (Nat.zero_le g) (unhide N8).2 (by decide)))
    have v9 := (unhide VB9).cell
    have va9 := fun o => ((unhide VB9).alloc o).cell
    have x9 := (unhide N9).cells1 (unhide X0) n1
    have xa9 := fun o => ((unhide N9).al o).cells1 (unhide X0) n1
    clear hr
    go_wp2_with fail
    refine (unhide CL _ _ _ (unhide N9).x).mono ?_
    rintro e w10 ⟨rfl, hr⟩
    have N10 := hide ((unhide N9).re hr)
    have VB10 := hide (hr.1.box (unhide VB9) nb)
    have KP10 : Hid (Kept tenTS 0 F w10) := hide ((unhide KP9).trans (hr.1.keptT (Nat.zero_le g) (unhide N9).2 (by decide)))
    have v10 := (unhide VB10).cell
    have va10 := fun o => ((unhide VB10).alloc o).cell
    have x10 := (unhide N10).cells1 (unhide X0) n1
    have xa10 := fun o => ((unhide N10).al o).cells1 (unhide X0) n1
    clear hr
    go_wp2_with fail
    refine (unhide CI _ (unhide N10).x).mono ?_
    rintro e w11 ⟨q11, d11, L11, rfl, hq⟩
    obtain ⟨h1, h2, hr⟩ := unhide hq
    rw [unhide HL0] at h1 hr
    have HL11 : Hid (L11.map FA.f = inL l 5) := hide h1
    have HM11 := hide h2
    have N11 := hide ((unhide N10).re hr)
    have VB11 := hide (hr.1.box (unhide VB10) nb)
    have KP11 : Hid (Kept tenTS 0 F w11) := hide ((unhide KP10).trans (hr.1.keptT (Nat.zero_le g) (unhide N10).2 (by decide)))
    have v11 := (unhide VB11).cell
    have va11 := fun o => ((unhide VB11).alloc o).cell
    have xa11 := fun o => ((unhide N11).al o).cells1 (unhide X0) n1
    have l11 := (unhide N11).size
    have lv11 := (unhide VB11).lt
    clear hq h1 h2 hr v8 v9 v10 va8 va9 va10 x8 x9 x10 xa8 xa9 xa10 x7 v7
    rw [unhide HL0]
    obtain ⟨I5, hI5⟩ : ∃ I, (messageP l 5).1.2 = I := ⟨_, rfl⟩
    have HI5 : Hid (inIs l 5 = I5) := hide hI5
    rw [hI5]
    clear hI5
    cases I5
    ·
      have t4 : (!false && KD.1 == 4) = (KD.1 == 4) := by simp
      go_wp2_with fail
      refine (unhide CB _ _ ((unhide N11).al (Obj.cells #[.slice q11 L11.length d11, .pointer (some ⟨g, 0, none⟩)] 58)).x).mono ?_
      rintro e w12 ⟨rfl, hr⟩
      have NN := hide (((unhide N11).al (Obj.cells #[.slice q11 L11.length d11, .pointer (some ⟨g, 0, none⟩)] 58)).re hr)
      have VV := hide (hr.1.box ((unhide VB11).alloc (Obj.cells #[.slice q11 L11.length d11, .pointer (some ⟨g, 0, none⟩)] 58)) nb)
      have KP12 : Hid (Kept tenTS 0 F w12) := hide ((unhide KP11).trans ((Kept.below (al1p w11 (Obj.cells #[.slice q11 L11.length d11, .pointer (some ⟨g, 0, none⟩)] 58))).trans (hr.1.keptT (Nat.zero_le g) ((unhide N11).al (Obj.cells #[.slice q11 L11.length d11, .pointer (some ⟨g, 0, none⟩)] 58)).2 (by decide))))
      have AI : Hid (AtIn 0 w12 ⟨NM.1, KD.1, FV, IV.1, TX.1, noTen, noTA, FL.1, q6, d6, IS.1, q7, d7⟩) := hide ⟨unhide HNB, unhide HKW, unhide HFV2, unhide HIVW, unhide HTB, tenT_0 _ _, ⟨(unhide Q6).1.keptT (unhide Q6).2 (by simp [tenTS]) (unhide KP12), (unhide Q6).2.kept (by simp [tenTS]) (unhide KP12)⟩, (unhide Q7).1.keptT (unhide Q7).2 (by simp [tenTS]) (unhide KP12), (unhide Q7).2.kept (by simp [tenTS]) (unhide KP12)⟩
      have v12 := (unhide VV).cell
      have x12 := (unhide NN).cells1 (unhide X0) n1
      clear hr KP12 va11 v11 xa11
      obtain ⟨ka, hka⟩ : ∃ a, keptA ⟨NM.1, KD.1, FV, IV.1, TX.1, noTen, noTA, FL.1, q6, d6, IS.1, q7, d7⟩ = a := ⟨_, rfl⟩
      have HKA := hide hka
      have CKa := hide (fun v => ckept_any ⟨NM.1, KD.1, FV, IV.1, TX.1, noTen, noTA, FL.1, q6, d6, IS.1, q7, d7⟩ v)
      rw [hka] at CKa
      clear hka
      obtain ⟨KB, hKB⟩ : ∃ b, kindB KD.1 = b := ⟨_, rfl⟩
      have HKB := hide hKB
      unfold atCells at CKa
      simp only [tenCells, noTen, noTA, List.cons_append, List.nil_append, strV, List.length_nil] at CKa
      rw [hKB] at CKa
      clear hKB
      go_wp2_with fail
      refine (unhide CKa _).mono ?_
      rintro e w20 ⟨rfl, hb⟩
      have N20 := hide ((unhide NN).bel hb)
      have VB20 := hide ((unhide VV).below hb)
      have AI20 := hide (((unhide AI).kept (TS := tenTS) (fun t h => h) (Kept.below hb)).keptA)
      have v20 := fun o => ((unhide VB20).alloc o).cell
      have xa20 := fun o => ((unhide N20).al o).cells1 (unhide X0) n1
      have l20 := (unhide N20).size
      rw [unhide HKA] at AI20
      clear hb
      obtain ⟨knm, kkd, kf, ki, ks, ⟨k1, k2, k3, k4, k5⟩, ⟨kpd, kcd, kpf, kcf, kpi, kci, kpb, kcb⟩, kfl, kqf, kcf2, kis, kqi, kci2⟩ := ka
      simp only
      go_wp2_with fail
      refine (unhide CO _ _ ((unhide N20).al (Obj.cells #[.string (strOfNums knm), .int .i64 kkd, .int .u32 kf, .int .i64 ki, .string (strOfNums ks), .int .i64 k1, .slice kpd k2.length kcd, .slice kpf k3.length kcf, .slice kpi k4.length kci, .slice kpb k5.length kcb, .slice kqf kfl.length kcf2, .slice kqi kis.length kci2] 86)).x).mono ?_
      rintro e w21 ⟨rfl, hr⟩
      have N21 := hide (((unhide N20).al (Obj.cells #[.string (strOfNums knm), .int .i64 kkd, .int .u32 kf, .int .i64 ki, .string (strOfNums ks), .int .i64 k1, .slice kpd k2.length kcd, .slice kpf k3.length kcf, .slice kpi k4.length kci, .slice kpb k5.length kcb, .slice kqf kfl.length kcf2, .slice kqi kis.length kci2] 86)).re hr)
      have VB21 := hide (hr.1.box ((unhide VB20).alloc (Obj.cells #[.string (strOfNums knm), .int .i64 kkd, .int .u32 kf, .int .i64 ki, .string (strOfNums ks), .int .i64 k1, .slice kpd k2.length kcd, .slice kpf k3.length kcf, .slice kpi k4.length kci, .slice kpb k5.length kcb, .slice kqf kfl.length kcf2, .slice kqi kis.length kci2] 86)) nb)
      have GB21 := hide (hr.1.box (Box.new w20 #[.string (strOfNums knm), .int .i64 kkd, .int .u32 kf, .int .i64 ki, .string (strOfNums ks), .int .i64 k1, .slice kpd k2.length kcd, .slice kpf k3.length kcf, .slice kpi k4.length kci, .slice kpb k5.length kcb, .slice kqf kfl.length kcf2, .slice kqi kis.length kci2] 86) (by omega))
      have KP21 : Hid (Kept tenTS 0 w20 w21) := hide ((Kept.below (al1p w20 (Obj.cells #[.string (strOfNums knm), .int .i64 kkd, .int .u32 kf, .int .i64 ki, .string (strOfNums ks), .int .i64 k1, .slice kpd k2.length kcd, .slice kpf k3.length kcf, .slice kpi k4.length kci, .slice kpb k5.length kcb, .slice kqf kfl.length kcf2, .slice kqi kis.length kci2] 86))).trans (hr.1.keptT (Nat.zero_le g) ((unhide N20).al (Obj.cells #[.string (strOfNums knm), .int .i64 kkd, .int .u32 kf, .int .i64 ki, .string (strOfNums ks), .int .i64 k1, .slice kpd k2.length kcd, .slice kpf k3.length kcf, .slice kpi k4.length kci, .slice kpb k5.length kcb, .slice kqf kfl.length kcf2, .slice kqi kis.length kci2] 86)).2 (by decide)))
      have AI21 := hide ((unhide AI20).kept (fun t h => h) (unhide KP21))
      have v21 := (unhide VB21).cell
      have x21 := (unhide N21).cells1 (unhide X0) n1
      clear hr v20 xa20 KP21 AI20
      go_wp2_with fail
      refine (unhide CB _ _ (unhide N21).x).mono ?_
      rintro e w22 ⟨rfl, hr⟩
      have N22 := hide ((unhide N21).re hr)
      have GB22 := hide (hr.1.box (unhide GB21) (by omega))
      have AI22 := hide ((unhide AI21).kept (TS := tenTS) (fun t h => h) (hr.1.keptT (Nat.zero_le g) (unhide N21).2 (by decide)))
      have g22 := (unhide GB22).cell
      have Y22 := hide ((unhide N22).box (unhide Y0) (by omega))
      have y22 := (unhide Y22).cell
      have z22 := (unhide Y22).frozen
      clear hr v21 x21 AI21
      go_wp2_with fail
      have Y23 := hide ((unhide Y22).set12 (.string (strOfNums knm)) (.int .i64 kkd) (.int .u32 kf) (.int .i64 ki) (.string (strOfNums ks)) (.int .i64 k1) (.slice kpd k2.length kcd) (.slice kpf k3.length kcf) (.slice kpi k4.length kci) (.slice kpb k5.length kcb) (.slice kqf kfl.length kcf2) (.slice kqi kis.length kci2))
      have AI23 := hide ((unhide AI22).kept (TS := tenTS) (fun t h => h) (Kept.set12 (unhide Y22) (by decide) (by omega) (.string (strOfNums knm)) (.int .i64 kkd) (.int .u32 kf) (.int .i64 ki) (.string (strOfNums ks)) (.int .i64 k1) (.slice kpd k2.length kcd) (.slice kpf k3.length kcf) (.slice kpi k4.length kci) (.slice kpb k5.length kcb) (.slice kqf kfl.length kcf2) (.slice kqi kis.length kci2)))
      have R23 := hide (((unhide R0).thenN (unhide N22)).set12 (b := w.heap.size + 1) (by omega) gl (.string (strOfNums knm)) (.int .i64 kkd) (.int .u32 kf) (.int .i64 ki) (.string (strOfNums ks)) (.int .i64 k1) (.slice kpd k2.length kcd) (.slice kpf k3.length kcf) (.slice kpi k4.length kci) (.slice kpb k5.length kcb) (.slice kqf kfl.length kcf2) (.slice kqi kis.length kci2))
      refine bodyPost_ret ?_ rfl ⟨⟨knm, kkd, kf, ki, ks, (k1, k2, k3, k4, k5), ⟨kpd, kcd, kpf, kcf, kpi, kci, kpb, kcb⟩, kfl, kqf, kcf2, kis, kqi, kci2⟩, rfl, hide ⟨fun hc => ?_, unhide AI23, (unhide R23).1.eq (congrArg lev ?_)⟩⟩
      · simp [results, Tryz.results177, go_sem, (unhide Y23).cell, atCells, tenCells, strV]
      · rw [← unhide HKA]
        exact attr_kept (unhide HNM) (unhide HKD) (unhide HFV) (unhide HIV) (unhide HTX) (unhide HFL) (unhide HIS) hc (by rw [unhide HI5, if_neg (by decide)])
      · unfold attrCF inF
        rw [unhide HNM, unhide HKD, unhide HFF, unhide HIV, unhide HTX, unhide HFL, unhide HIS, unhide HI5, unhide HKB]
        simp only [f3_assoc, no_f3, str_len, dec4096, Bool.false_eq_true, if_false, Bool.not_false, Bool.true_and]
    ·
      go_wp2_with fail
      refine (unhide CB _ _ ((unhide N11).al (Obj.cells #[.slice q11 L11.length d11, .pointer (some ⟨g, 0, none⟩)] 58)).x).mono ?_
      rintro e w12 ⟨rfl, hr⟩
      have N12 := hide (((unhide N11).al (Obj.cells #[.slice q11 L11.length d11, .pointer (some ⟨g, 0, none⟩)] 58)).re hr)
      have VB12 := hide (hr.1.box ((unhide VB11).alloc (Obj.cells #[.slice q11 L11.length d11, .pointer (some ⟨g, 0, none⟩)] 58)) nb)
      have MB12 := hide (hr.1.box (Box.new w11 #[.slice q11 L11.length d11, .pointer (some ⟨g, 0, none⟩)] 58) (by omega))
      have HM12 := hide (((unhide HM11).stay (Stay.below (al1p w11 (Obj.cells #[.slice q11 L11.length d11, .pointer (some ⟨g, 0, none⟩)] 58)) (by omega))).stay hr.1)
      have KP12 : Hid (Kept tenTS 0 F w12) := hide ((unhide KP11).trans ((Kept.below (al1p w11 (Obj.cells #[.slice q11 L11.length d11, .pointer (some ⟨g, 0, none⟩)] 58))).trans (hr.1.keptT (Nat.zero_le g) ((unhide N11).al (Obj.cells #[.slice q11 L11.length d11, .pointer (some ⟨g, 0, none⟩)] 58)).2 (by decide))))
      have m12 := (unhide MB12).cell
      have v12 := (unhide VB12).cell
      have x12 := (unhide N12).cells1 (unhide X0) n1
      have l12 := (unhide N12).size
      clear hr va11 v11 xa11
      go_wp2_with fail
      refine (creadTensor_any g q11 d11 L11 _ (unhide N12).2 (unhide HM12)).mono ?_
      rintro e w13 ⟨xt, rfl, hq⟩
      obtain ⟨h1, h2, hr⟩ := unhide hq
      rw [unhide HL11] at h1 hr
      have N13 := hide ((unhide N12).re hr)
      have VB13 := hide (hr.1.box (unhide VB12) nb)
      have KP13 : Hid (Kept tenTS 0 F w13) := hide ((unhide KP12).trans (hr.1.keptT (Nat.zero_le g) (unhide N12).2 (by decide)))
      have v13 := (unhide VB13).cell
      have f13 := (unhide VB13).frozen
      have l13 := (unhide N13).size
      obtain ⟨xnm, ⟨T1, T2, T3, T4, T5⟩, ⟨Apd, Acd, Apf, Acf, Api, Aci, Apb, Acb⟩⟩ := xt
      have HTD : Hid (tensorCF (inL l 5) = no3 → (tensorC (inL l 5)).2 = (T1, T2, T3, T4, T5)) := hide (fun hc => (by rw [← h1 hc]; rfl))
      have TI13 := hide h2.2
      simp only at TI13
      simp only [inCells, tenCells, strV]
      clear hq h1 h2 hr m12 v12 x12
      have ff := field_T
      have VV : Hid (Box (((((w13.setCell ⟨β, 5, none⟩ (.int .i64 T1)).setCell ⟨β, 6, none⟩ (.slice Apd T2.length Acd)).setCell ⟨β, 7, none⟩ (.slice Apf T3.length Acf)).setCell ⟨β, 8, none⟩ (.slice Api T4.length Aci)).setCell ⟨β, 9, none⟩ (.slice Apb T5.length Acb)) β #[.string (strOfNums NM.1), .int .i64 KD.1, .int .u32 FV, .int .i64 IV.1, .string (strOfNums TX.1), .int .i64 T1, .slice Apd T2.length Acd, .slice Apf T3.length Acf, .slice Api T4.length Aci, .slice Apb T5.length Acb, .slice q6 FL.1.length d6, .slice q7 IS.1.length d7] 86) := hide (by
        have a0 := (unhide VB13).same 5 (.int .i64 T1)
        have a1 := a0.same 6 (.slice Apd T2.length Acd)
        have a2 := a1.same 7 (.slice Apf T3.length Acf)
        have a3 := a2.same 8 (.slice Api T4.length Aci)
        exact a3.same 9 (.slice Apb T5.length Acb))
      have NN := hide ((((((unhide N13).set (b := β) lb gl6 5 (.int .i64 T1)).set (b := β) lb gl6 6 (.slice Apd T2.length Acd)).set (b := β) lb gl6 7 (.slice Apf T3.length Acf)).set (b := β) lb gl6 8 (.slice Api T4.length Aci)).set (b := β) lb gl6 9 (.slice Apb T5.length Acb))
      have KS : Hid (Kept tenTS 0 w13 (((((w13.setCell ⟨β, 5, none⟩ (.int .i64 T1)).setCell ⟨β, 6, none⟩ (.slice Apd T2.length Acd)).setCell ⟨β, 7, none⟩ (.slice Apf T3.length Acf)).setCell ⟨β, 8, none⟩ (.slice Api T4.length Aci)).setCell ⟨β, 9, none⟩ (.slice Apb T5.length Acb))) := hide (Kept.setMany (off := 5) (unhide VB13) (by decide) (by omega) [.int .i64 T1, .slice Apd T2.length Acd, .slice Apf T3.length Acf, .slice Api T4.length Aci, .slice Apb T5.length Acb])
      have AI : Hid (AtIn 0 (((((w13.setCell ⟨β, 5, none⟩ (.int .i64 T1)).setCell ⟨β, 6, none⟩ (.slice Apd T2.length Acd)).setCell ⟨β, 7, none⟩ (.slice Apf T3.length Acf)).setCell ⟨β, 8, none⟩ (.slice Api T4.length Aci)).setCell ⟨β, 9, none⟩ (.slice Apb T5.length Acb)) ⟨NM.1, KD.1, FV, IV.1, TX.1, (T1, T2, T3, T4, T5), ⟨Apd, Acd, Apf, Acf, Api, Aci, Apb, Acb⟩, FL.1, q6, d6, IS.1, q7, d7⟩) := hide ⟨unhide HNB, unhide HKW, unhide HFV2, unhide HIVW, unhide HTB, (unhide TI13).kept (fun t h => h) (unhide KS), ⟨(unhide Q6).1.keptT (unhide Q6).2 (by simp [tenTS]) ((unhide KP13).trans (unhide KS)), (unhide Q6).2.kept (by simp [tenTS]) ((unhide KP13).trans (unhide KS))⟩, (unhide Q7).1.keptT (unhide Q7).2 (by simp [tenTS]) ((unhide KP13).trans (unhide KS)), (unhide Q7).2.kept (by simp [tenTS]) ((unhide KP13).trans (unhide KS))⟩
      have vv := (unhide VV).cell
      obtain ⟨ka, hka⟩ : ∃ a, keptA ⟨NM.1, KD.1, FV, IV.1, TX.1, (T1, T2, T3, T4, T5), ⟨Apd, Acd, Apf, Acf, Api, Aci, Apb, Acb⟩, FL.1, q6, d6, IS.1, q7, d7⟩ = a := ⟨_, rfl⟩
      have HKA := hide hka
      have CKa := hide (fun v => ckept_any ⟨NM.1, KD.1, FV, IV.1, TX.1, (T1, T2, T3, T4, T5), ⟨Apd, Acd, Apf, Acf, Api, Aci, Apb, Acb⟩, FL.1, q6, d6, IS.1, q7, d7⟩ v)
      rw [hka] at CKa
      clear hka
      obtain ⟨KB, hKB⟩ : ∃ b, kindB KD.1 = b := ⟨_, rfl⟩
      have HKB := hide hKB
      unfold atCells at CKa
      simp only [tenCells, List.cons_append, List.nil_append, strV] at CKa
      rw [hKB] at CKa
      clear hKB
      go_wp2_with fail
      refine (unhide CKa _).mono ?_
      rintro e w20 ⟨rfl, hb⟩
      have N20 := hide ((unhide NN).bel hb)
      have VB20 := hide ((unhide VV).below hb)
      have AI20 := hide (((unhide AI).kept (TS := tenTS) (fun t h => h) (Kept.below hb)).keptA)
      have v20 := fun o => ((unhide VB20).alloc o).cell
      have xa20 := fun o => ((unhide N20).al o).cells1 (unhide X0) n1
      have l20 := (unhide N20).size
      rw [unhide HKA] at AI20
      clear hb
      obtain ⟨knm, kkd, kf, ki, ks, ⟨k1, k2, k3, k4, k5⟩, ⟨kpd, kcd, kpf, kcf, kpi, kci, kpb, kcb⟩, kfl, kqf, kcf2, kis, kqi, kci2⟩ := ka
      simp only
      go_wp2_with fail
      refine (unhide CO _ _ ((unhide N20).al (Obj.cells #[.string (strOfNums knm), .int .i64 kkd, .int .u32 kf, .int .i64 ki, .string (strOfNums ks), .int .i64 k1, .slice kpd k2.length kcd, .slice kpf k3.length kcf, .slice kpi k4.length kci, .slice kpb k5.length kcb, .slice kqf kfl.length kcf2, .slice kqi kis.length kci2] 86)).x).mono ?_
      rintro e w21 ⟨rfl, hr⟩
      have N21 := hide (((unhide N20).al (Obj.cells #[.string (strOfNums knm), .int .i64 kkd, .int .u32 kf, .int .i64 ki, .string (strOfNums ks), .int .i64 k1, .slice kpd k2.length kcd, .slice kpf k3.length kcf, .slice kpi k4.length kci, .slice kpb k5.length kcb, .slice kqf kfl.length kcf2, .slice kqi kis.length kci2] 86)).re hr)
      have VB21 := hide (hr.1.box ((unhide VB20).alloc (Obj.cells #[.string (strOfNums knm), .int .i64 kkd, .int .u32 kf, .int .i64 ki, .string (strOfNums ks), .int .i64 k1, .slice kpd k2.length kcd, .slice kpf k3.length kcf, .slice kpi k4.length kci, .slice kpb k5.length kcb, .slice kqf kfl.length kcf2, .slice kqi kis.length kci2] 86)) nb)
      have GB21 := hide (hr.1.box (Box.new w20 #[.string (strOfNums knm), .int .i64 kkd, .int .u32 kf, .int .i64 ki, .string (strOfNums ks), .int .i64 k1, .slice kpd k2.length kcd, .slice kpf k3.length kcf, .slice kpi k4.length kci, .slice kpb k5.length kcb, .slice kqf kfl.length kcf2, .slice kqi kis.length kci2] 86) (by omega))
      have KP21 : Hid (Kept tenTS 0 w20 w21) := hide ((Kept.below (al1p w20 (Obj.cells #[.string (strOfNums knm), .int .i64 kkd, .int .u32 kf, .int .i64 ki, .string (strOfNums ks), .int .i64 k1, .slice kpd k2.length kcd, .slice kpf k3.length kcf, .slice kpi k4.length kci, .slice kpb k5.length kcb, .slice kqf kfl.length kcf2, .slice kqi kis.length kci2] 86))).trans (hr.1.keptT (Nat.zero_le g) ((unhide N20).al (Obj.cells #[.string (strOfNums knm), .int .i64 kkd, .int .u32 kf, .int .i64 ki, .string (strOfNums ks), .int .i64 k1, .slice kpd k2.length kcd, .slice kpf k3.length kcf, .slice kpi k4.length kci, .slice kpb k5.length kcb, .slice kqf kfl.length kcf2, .slice kqi kis.length kci2] 86)).2 (by decide)))
      have AI21 := hide ((unhide AI20).kept (fun t h => h) (unhide KP21))
      have v21 := (unhide VB21).cell
      have x21 := (unhide N21).cells1 (unhide X0) n1
      clear hr v20 xa20 KP21 AI20
      go_wp2_with fail
      refine (unhide CB _ _ (unhide N21).x).mono ?_
      rintro e w22 ⟨rfl, hr⟩
      have N22 := hide ((unhide N21).re hr)
      have GB22 := hide (hr.1.box (unhide GB21) (by omega))
      have AI22 := hide ((unhide AI21).kept (TS := tenTS) (fun t h => h) (hr.1.keptT (Nat.zero_le g) (unhide N21).2 (by decide)))
      have g22 := (unhide GB22).cell
      have Y22 := hide ((unhide N22).box (unhide Y0) (by omega))
      have y22 := (unhide Y22).cell
      have z22 := (unhide Y22).frozen
      clear hr v21 x21 AI21
      go_wp2_with fail
      have Y23 := hide ((unhide Y22).set12 (.string (strOfNums knm)) (.int .i64 kkd) (.int .u32 kf) (.int .i64 ki) (.string (strOfNums ks)) (.int .i64 k1) (.slice kpd k2.length kcd) (.slice kpf k3.length kcf) (.slice kpi k4.length kci) (.slice kpb k5.length kcb) (.slice kqf kfl.length kcf2) (.slice kqi kis.length kci2))
      have AI23 := hide ((unhide AI22).kept (TS := tenTS) (fun t h => h) (Kept.set12 (unhide Y22) (by decide) (by omega) (.string (strOfNums knm)) (.int .i64 kkd) (.int .u32 kf) (.int .i64 ki) (.string (strOfNums ks)) (.int .i64 k1) (.slice kpd k2.length kcd) (.slice kpf k3.length kcf) (.slice kpi k4.length kci) (.slice kpb k5.length kcb) (.slice kqf kfl.length kcf2) (.slice kqi kis.length kci2)))
      have R23 := hide (((unhide R0).thenN (unhide N22)).set12 (b := w.heap.size + 1) (by omega) gl (.string (strOfNums knm)) (.int .i64 kkd) (.int .u32 kf) (.int .i64 ki) (.string (strOfNums ks)) (.int .i64 k1) (.slice kpd k2.length kcd) (.slice kpf k3.length kcf) (.slice kpi k4.length kci) (.slice kpb k5.length kcb) (.slice kqf kfl.length kcf2) (.slice kqi kis.length kci2))
      refine bodyPost_ret ?_ rfl ⟨⟨knm, kkd, kf, ki, ks, (k1, k2, k3, k4, k5), ⟨kpd, kcd, kpf, kcf, kpi, kci, kpb, kcb⟩, kfl, kqf, kcf2, kis, kqi, kci2⟩, rfl, hide ⟨fun hc => ?_, unhide AI23, (unhide R23).1.eq (congrArg lev ?_)⟩⟩
      · simp [results, Tryz.results177, go_sem, (unhide Y23).cell, atCells, tenCells, strV]
      · rw [← unhide HKA]
        exact attr_kept (unhide HNM) (unhide HKD) (unhide HFV) (unhide HIV) (unhide HTX) (unhide HFL) (unhide HIS) hc (by rw [unhide HI5, if_pos rfl]; exact unhide HTD (attr_tens (unhide HI5) hc))
      · unfold attrCF inF
        rw [unhide HNM, unhide HKD, unhide HFF, unhide HIV, unhide HTX, unhide HFL, unhide HIS, unhide HI5, unhide HKB]
        simp only [f3_assoc, no_f3, str_len, dec4096, if_true, Bool.not_true, Bool.false_and, bad3_no]

end Go.Proofs.YtkjlhmojdffooaaGreat
