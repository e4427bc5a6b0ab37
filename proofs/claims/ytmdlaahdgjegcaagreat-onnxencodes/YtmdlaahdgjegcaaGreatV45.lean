import Derived.Test.YtmdlaahdgjegcaaGreatV44
set_option maxRecDepth 100000
set_option maxHeartbeats 8000000
namespace Go.Proofs.YtmdlaahdgjegcaaGreat
open Go.RowKit
set_option linter.unusedVariables false
theorem ownsRow_st {w0 w w':World} {k n g:Nat} {e:TypeId} {v:Value} {xs:List Value} (h:w.ownsRow w0.heap.size e k v n xs) (s:Stay g w w') (hg:g < w0.heap.size):w'.ownsRow w0.heap.size e k v n xs:=ownsRow_stay h hg s
theorem field_T (a0 a1 a2 a3 a4 a5:Value) (w:World):Sem.run Tryz.prog (Instr.field 82 (.agg #[a0,a1,a2,a3,a4,a5]) 1) w = .ok (.agg #[a1,a2,a3,a4,a5]) w:=by kernel_rfl
theorem dec4096 (n:Nat):decide ((4096:Int) < (n:Int)) = decide (4096 < n):=by rw [decide_eq_decide]; omega
theorem dec64 (n:Nat):decide ((64:Int) < (n:Int)) = decide (64 < n):=by rw [decide_eq_decide]; omega
theorem dec1024 (n:Nat):decide ((1024:Int) < (n:Int)) = decide (1024 < n):=by rw [decide_eq_decide]; omega
theorem AtIn.keptA {B:Nat} {w:World} {a:AtA} (h:AtIn B w a):AtIn B w (keptA a):=by
 obtain ⟨h1,h2,h3,h4,h5,h6,h7,h8,h9⟩:=h
 have z1:isB ([]:Str):=fun c hc => by cases hc
 have z2:(Ints .u32 w none 0 [] ∧ Tag 84 B w none ([]:List Int).length):=⟨nilInts _ _,Tag.nil _ _ _ _⟩
 have z3:Ints .i64 w none 0 []:=nilInts _ _
 have z4:Tag 2 B w none ([]:List Int).length:=Tag.nil _ _ _ _
 unfold Go.Proofs.YtmdlaahdgjegcaaGreat.keptA
 split
 ·exact ⟨h1,h2,h3,rfl,z1,tenT_0 _ _,z2,z3,z4⟩
 ·split
  ·exact ⟨h1,h2,rfl,h4,z1,tenT_0 _ _,z2,z3,z4⟩
  ·split
   ·exact ⟨h1,h2,rfl,rfl,h5,tenT_0 _ _,z2,z3,z4⟩
   ·split
    ·exact ⟨h1,h2,rfl,rfl,z1,h6,z2,z3,z4⟩
    ·split
     ·exact ⟨h1,h2,rfl,rfl,z1,tenT_0 _ _,h7,z3,z4⟩
     ·split
      ·exact ⟨h1,h2,rfl,rfl,z1,tenT_0 _ _,z2,h8,h9⟩
      ·exact ⟨z1,rfl,rfl,rfl,z1,tenT_0 _ _,z2,z3,z4⟩
theorem attr_tens {l:List Fld} (hi:inIs l 5 = true) (h:attrCF l = no3):tensorCF (inL l 5) = no3:=by
 unfold attrCF at h
 simp only [no_iff] at h
 have:=h.1.1.2
 rw [if_pos hi] at this
 exact this
theorem attr_kept {l:List Fld} {NM:Rd7 Str} {KD:Rd7 Int} {FV:Int} {IV:Rd7 Int} {TX:Rd7 Str} {FL IS:Rd7 (List Int)} {T:Ten} {A:TA} {qf qi:Option Addr} {cf ci:Nat} (h1:nameP l 1 = NM) (h2:wholeP l 20 = KD) (h3:(lastF l 2 5).1.2.2.1 % 4294967296 = FV) (h4:wholeP l 3 = IV) (h5:textP l 4 = TX) (h6:floatsP l 7 = FL) (h7:intsP l 8 = IS) (hc:attrCF l = no3) (ht:(if inIs l 5 = true then (tensorC (inL l 5)).2 else noTen) = T) :
  (keptA ⟨NM.1,KD.1,FV,IV.1,TX.1,T,A,FL.1,qf,cf,IS.1,qi,ci⟩).d = attrC l:=by
 have hk:kindB (wholeP l 20).1 = true:=by
  unfold attrCF at hc
  simp only [no_iff,no_odd] at hc
  simpa using hc.1.2
 unfold attrC
 simp only
 rw [ht]
 subst h1 h2 h3 h4 h5 h6 h7
 unfold keptA AtA.d
 simp only
 generalize (wholeP l 20).1 = K at hk
 by_cases c1:K = 1
 ·subst c1; rfl
 by_cases c2:K = 2
 ·subst c2; rfl
 by_cases c3:K = 3
 ·subst c3; rfl
 by_cases c4:K = 4
 ·subst c4; rfl
 by_cases c6:K = 6
 ·subst c6; rfl
 by_cases c7:K = 7
 ·subst c7; rfl
 exact absurd hk (by simp [kindB,c1,c2,c3,c4,c6,c7])
theorem creadAttr_any (g:Nat) (q:Option Addr) (d:Nat) (L:List FA) (w:World) (hw:WstE g w) (h:MsIn g w q d L) :
  Calls Tryz.prog 177 #[msV q L.length d g] w fun e w' => Made (fun w x => AtIn 0 w x) (fun x => .agg (atCells x).toArray) g (fun x => attrCF (L.map FA.f) = no3 → x.d = attrC (L.map FA.f)) (attrCF (L.map FA.f)) w e w':=by
 have hok:=ms_ok h
 have HNB:Hid (isB (nameP (L.map FA.f) 1).1):=hide (text_isB (fun a ha => wf_isB (h.1.2 a ha).2.2.2.2.2.1))
 have HTB:Hid (isB (textP (L.map FA.f) 4).1):=hide (text_isB (fun a ha => wf_isB (h.1.2 a ha).2.2.2.2.2.1))
 have HFW:Hid (∀ x ∈ (floatsP (L.map FA.f) 7).1,(Lit.int .u32 x).wf = true):=hide (fun x hx => u32_wf7 (floats_ok hok 7 x hx).1 (floats_ok hok 7 x hx).2)
 have HIW:Hid (∀ x ∈ (intsP (L.map FA.f) 8).1,(Lit.int .i64 x).wf = true):=hide (fun x hx => i64_wf7 (ints_ok _ 8 x hx))
 have HKW:Hid ((Lit.int .i64 (wholeP (L.map FA.f) 20).1).wf = true):=hide (i64w_wf _)
 have HIVW:Hid ((Lit.int .i64 (wholeP (L.map FA.f) 3).1).wf = true):=hide (i64w_wf _)
 have HFV2:Hid ((Lit.int .u32 ((lastF (L.map FA.f) 2 5).1.2.2.1 % 4294967296)).wf = true):=hide (u32_wf7 (Int.emod_nonneg _ (by decide)) (Int.emod_lt_of_pos _ (by decide)))
 obtain ⟨l,hl⟩:∃ l,L.map FA.f = l:=⟨_,rfl⟩
 have B0:=hide (al2p w (Obj.cells #[.slice q L.length d,.pointer (some ⟨g,0,none⟩)] 58) (Obj.cells #[.string { data:=#[] },.int .i64 0,.int .u32 0,.int .i64 0,.string { data:=#[] },.int .i64 0,.slice none 0 0,.slice none 0 0,.slice none 0 0,.slice none 0 0,.slice none 0 0,.slice none 0 0] 86))
 have X0:=hide (Box.alloc (Box.new w #[.slice q L.length d,.pointer (some ⟨g,0,none⟩)] 58) (Obj.cells #[.string { data:=#[] },.int .i64 0,.int .u32 0,.int .i64 0,.string { data:=#[] },.int .i64 0,.slice none 0 0,.slice none 0 0,.slice none 0 0,.slice none 0 0,.slice none 0 0,.slice none 0 0] 86))
 have Y0:Hid (Box ((w.alloc (Obj.cells #[.slice q L.length d,.pointer (some ⟨g,0,none⟩)] 58)).alloc (Obj.cells #[.string { data:=#[] },.int .i64 0,.int .u32 0,.int .i64 0,.string { data:=#[] },.int .i64 0,.slice none 0 0,.slice none 0 0,.slice none 0 0,.slice none 0 0,.slice none 0 0,.slice none 0 0] 86)) (w.heap.size + 1) #[.string { data:=#[] },.int .i64 0,.int .u32 0,.int .i64 0,.string { data:=#[] },.int .i64 0,.slice none 0 0,.slice none 0 0,.slice none 0 0,.slice none 0 0,.slice none 0 0,.slice none 0 0] 86):=hide (by have h:=Box.new (w.alloc (Obj.cells #[.slice q L.length d,.pointer (some ⟨g,0,none⟩)] 58)) #[.string { data:=#[] },.int .i64 0,.int .u32 0,.int .i64 0,.string { data:=#[] },.int .i64 0,.slice none 0 0,.slice none 0 0,.slice none 0 0,.slice none 0 0,.slice none 0 0,.slice none 0 0] 86; rw [alloc_size6] at h; exact h)
 have HW:=hide hw
 have gl:=hw.lt
 have HM:=hide h
 have n1:w.heap.size ≠ g:=by omega
 clear hw h hok
 rw [hl] at HNB HTB HFW HIW HKW HIVW HFV2 ⊢
 have HL0:=hide hl
 unfold msV
 have R0:=hide (RE.below (uh B0) (uh HW))
 have NW:=hide (Rn.refl ((uh HW).below (uh B0)))
 have HM0:=hide ((uh HM).stay (uh R0).1)
 have x0:=(uh X0).cell
 go_enter Tryz.func177,Tryz.ntmps177
 go_wp2_with fail
 generalize (w.alloc (Obj.cells #[.slice q L.length d,.pointer (some ⟨g,0,none⟩)] 58)).alloc (Obj.cells #[.string { data:=#[] },.int .i64 0,.int .u32 0,.int .i64 0,.string { data:=#[] },.int .i64 0,.slice none 0 0,.slice none 0 0,.slice none 0 0,.slice none 0 0,.slice none 0 0,.slice none 0 0] 86) = W0 at B0 X0 Y0 R0 NW HM0 x0 ⊢
 have l0:=(uh Y0).lt
 have gl6:g < W0.heap.size:=by omega
 have N0:=hide (uh NW).dr
 have N0a:=hide ((uh NW).al (Obj.cells #[.string { data:=#[] },.int .i64 0,.int .u32 0,.int .i64 0,.string { data:=#[] },.int .i64 0,.slice none 0 0,.slice none 0 0,.slice none 0 0,.slice none 0 0,.slice none 0 0,.slice none 0 0] 86)).dr
 have C1:=hide (fun v (hn:Rx g W0 v) => cnam_any g q d L 1 v hn.wst (hn.ms (uh HM0)))
 have C2:=hide (fun v (hn:Rx g W0 v) => cnum_any g q d L 20 v hn.wst (hn.ms (uh HM0)))
 have C3:=hide (fun v (hn:Rx g W0 v) => cflt_any g q d L 2 v hn.wst (hn.ms (uh HM0)))
 have C4:=hide (fun v (hn:Rx g W0 v) => cnum_any g q d L 3 v hn.wst (hn.ms (uh HM0)))
 have C5:=hide (fun v (hn:Rx g W0 v) => ctxt_any g q d L 4 v hn.wst (hn.ms (uh HM0)))
 have C6:=hide (fun v (hn:Rx g W0 v) => cflts_any g q d L 7 v hn.wst (hn.ms (uh HM0)))
 have C7:=hide (fun v (hn:Rx g W0 v) => cnums_any g q d L 8 v hn.wst (hn.ms (uh HM0)))
 have CL:=hide (fun size most v (hn:Rx g W0 v) => climit_any g q L.length d size most v hn.wst)
 have CI:=hide (fun v (hn:Rx g W0 v) => cinnerm_any g q d L 5 v hn.wst (hn.ms (uh HM0)))
 have CB:=hide (fun is v (hn:Rx g W0 v) => cnote_bad g q L.length d is v hn.wst)
 have CO:=hide (fun is v (hn:Rx g W0 v) => cnote_odd g q L.length d is v hn.wst)
 rw [hl] at C1 C2 C3 C4 C5 C6 C7
 clear hl
 obtain ⟨NM,hNM⟩:∃ N,nameP l 1 = N:=⟨_,rfl⟩
 have HNM:=hide hNM
 rw [hNM] at C1 HNB
 clear hNM
 obtain ⟨KD,hKD⟩:∃ N,wholeP l 20 = N:=⟨_,rfl⟩
 have HKD:=hide hKD
 rw [hKD] at C2 HKW
 clear hKD
 obtain ⟨FV,hFV⟩:∃ N,(lastF l 2 5).1.2.2.1 % 4294967296 = N:=⟨_,rfl⟩
 have HFV:=hide hFV
 rw [hFV] at C3 HFV2
 clear hFV
 obtain ⟨FF,hFF⟩:∃ N,(lastF l 2 5).2 = N:=⟨_,rfl⟩
 have HFF:=hide hFF
 rw [hFF] at C3
 clear hFF
 obtain ⟨IV,hIV⟩:∃ N,wholeP l 3 = N:=⟨_,rfl⟩
 have HIV:=hide hIV
 rw [hIV] at C4 HIVW
 clear hIV
 obtain ⟨TX,hTX⟩:∃ N,textP l 4 = N:=⟨_,rfl⟩
 have HTX:=hide hTX
 rw [hTX] at C5 HTB
 clear hTX
 obtain ⟨FL,hFL⟩:∃ N,floatsP l 7 = N:=⟨_,rfl⟩
 have HFL:=hide hFL
 rw [hFL] at C6 HFW
 clear hFL
 obtain ⟨IS,hIS⟩:∃ N,intsP l 8 = N:=⟨_,rfl⟩
 have HIS:=hide hIS
 rw [hIS] at C7 HIW
 clear hIS
 unfold msV at C1 C2 C3 C4 C5 C6 C7 CL CI CB CO
 unfold strV at C1 C5
 unfold OwnS at C6 C7
 refine' cut7_4 _ (fun β F (q6:Option Addr) (d6:Nat) (q7:Option Addr) (d7:Nat) => Hid (Rn g (f3 (f3 (f3 (f3 (f3 (f3 (f3 no3 NM.2) KD.2) FF) IV.2) TX.2) FL.2) IS.2) W0 F ∧ (Ints .u32 F q6 d6 FL.1 ∧ Tag 84 0 F q6 FL.1.length) ∧ (Ints .i64 F q7 d7 IS.1 ∧ Tag 2 0 F q7 IS.1.length) ∧ Box F β #[.string (strOfNums NM.1),.int .i64 KD.1,.int .u32 FV,.int .i64 IV.1,.string (strOfNums TX.1),.int .i64 0,.slice none 0 0,.slice none 0 0,.slice none 0 0,.slice none 0 0,.slice q6 FL.1.length d6,.slice q7 IS.1.length d7] 86 ∧ W0.heap.size ≤ β)) ?main ?kk
 case main =>
  intro key
  go_region_held3 (fun v => (∀ j,v.cell? ⟨w.heap.size,j,none⟩ = (#[.slice q L.length d,.pointer (some ⟨g,0,none⟩)]:Array Value)[j]?)) (first | with_reducible assumption | with_reducible exact Rn.cells1 (uh N7) (uh X0) n1 | with_reducible exact Rn.cells1 ((uh N7).al _) (uh X0) n1 | with_reducible exact Rn.cells1 (uh N6) (uh X0) n1 | with_reducible exact Rn.cells1 ((uh N6).al _) (uh X0) n1 | with_reducible exact Rn.cells1 (uh N5) (uh X0) n1 | with_reducible exact Rn.cells1 ((uh N5).al _) (uh X0) n1 | with_reducible exact Rn.cells1 (uh N4) (uh X0) n1 | with_reducible exact Rn.cells1 ((uh N4).al _) (uh X0) n1 | with_reducible exact Rn.cells1 (uh N3) (uh X0) n1 | with_reducible exact Rn.cells1 ((uh N3).al _) (uh X0) n1 | with_reducible exact Rn.cells1 (uh N2) (uh X0) n1 | with_reducible exact Rn.cells1 ((uh N2).al _) (uh X0) n1 | with_reducible exact Rn.cells1 (uh N1) (uh X0) n1 | with_reducible exact Rn.cells1 ((uh N1).al _) (uh X0) n1 | with_reducible exact Rn.cells1 (uh N0) (uh X0) n1 | with_reducible exact Rn.cells1 (uh N0a) (uh X0) n1)
   (first
    | (go_at_call 181; (have nx:=N6; clear nx; refine (uh C7 _ ?_).mono ?_; (focus (first | with_reducible exact (uh N6).x | with_reducible exact ((uh N6).al (Obj.cells #[.string { data:=#[] },.int .i64 0,.int .u32 0,.int .i64 0,.string { data:=#[] },.int .i64 0,.slice none 0 0,.slice none 0 0,.slice none 0 0,.slice none 0 0,.slice none 0 0,.slice none 0 0] 86)).x)); rintro e w7 ⟨v7,rfl,hq⟩; obtain ⟨g7,hr⟩:=uh hq; obtain ⟨q7,d7,e7⟩:=own_form7 g7; subst e7; (first | (have N7:=hide ((uh N6).re hr); have T7:Hid (Stay g w6 w7):=hide hr.1) | (have N7:=hide (((uh N6).al (Obj.cells #[.string { data:=#[] },.int .i64 0,.int .u32 0,.int .i64 0,.string { data:=#[] },.int .i64 0,.slice none 0 0,.slice none 0 0,.slice none 0 0,.slice none 0 0,.slice none 0 0,.slice none 0 0] 86)).re hr); have T7:Hid (Stay g w6 w7):=hide ((Stay.below (al1p w6 _) (by have:=(uh N6).2.lt; omega)).trans hr.1))); (first | have V7:=hide (And.intro (hr.1.box (uh V6).1 (by have:=(uh V6).2; omega)) (uh V6).2) | have V7:=hide (And.intro (hr.1.box (Box.new w6 #[.string { data:=#[] },.int .i64 0,.int .u32 0,.int .i64 0,.string { data:=#[] },.int .i64 0,.slice none 0 0,.slice none 0 0,.slice none 0 0,.slice none 0 0,.slice none 0 0,.slice none 0 0] 86) (by have:=(uh N6).size; omega)) (uh N6).size) | skip); (first | (have vn:=(uh V7).1.cell; have vf:=(uh V7).1.frozen; have vz:=Rn.cells1 (Rn.store12 (uh N7) (Below.refl _ _) (uh V7).1 (uh V7).2 gl6 (.string (strOfNums NM.1)) (.int .i64 KD.1) (.int .u32 FV) (.int .i64 IV.1) (.string (strOfNums TX.1)) (.int .i64 0) (.slice none 0 0) (.slice none 0 0) (.slice none 0 0) (.slice none 0 0) (.slice q6 FL.1.length d6) (.slice q7 IS.1.length d7)).1 (uh X0) n1) | skip); have l7:=(uh N7).size; have O7:=hide g7; clear hq g7; clear hr))
    | (go_at_call 229; (have nx:=N5; clear nx; refine (uh C6 _ ?_).mono ?_; (focus (first | with_reducible exact (uh N5).x | with_reducible exact ((uh N5).al (Obj.cells #[.string { data:=#[] },.int .i64 0,.int .u32 0,.int .i64 0,.string { data:=#[] },.int .i64 0,.slice none 0 0,.slice none 0 0,.slice none 0 0,.slice none 0 0,.slice none 0 0,.slice none 0 0] 86)).x)); rintro e w6 ⟨v6,rfl,hq⟩; obtain ⟨g6,hr⟩:=uh hq; obtain ⟨q6,d6,e6⟩:=own_form7 g6; subst e6; (first | (have N6:=hide ((uh N5).re hr); have T6:Hid (Stay g w5 w6):=hide hr.1) | (have N6:=hide (((uh N5).al (Obj.cells #[.string { data:=#[] },.int .i64 0,.int .u32 0,.int .i64 0,.string { data:=#[] },.int .i64 0,.slice none 0 0,.slice none 0 0,.slice none 0 0,.slice none 0 0,.slice none 0 0,.slice none 0 0] 86)).re hr); have T6:Hid (Stay g w5 w6):=hide ((Stay.below (al1p w5 _) (by have:=(uh N5).2.lt; omega)).trans hr.1))); (first | have V6:=hide (And.intro (hr.1.box (uh V5).1 (by have:=(uh V5).2; omega)) (uh V5).2) | have V6:=hide (And.intro (hr.1.box (Box.new w5 #[.string { data:=#[] },.int .i64 0,.int .u32 0,.int .i64 0,.string { data:=#[] },.int .i64 0,.slice none 0 0,.slice none 0 0,.slice none 0 0,.slice none 0 0,.slice none 0 0,.slice none 0 0] 86) (by have:=(uh N5).size; omega)) (uh N5).size) | skip); have l6:=(uh N6).size; have O6:Hid (w6.ownsRow W0.heap.size 84 1 (.slice q6 FL.1.length d6) FL.1.length (FL.1.map (Value.int .u32))):=hide (ownsRow_base g6 (by first | exact (uh N5).size | exact ((uh N5).al _).size)); clear hq g6; clear hr))
    | (go_at_call 115; (have nx:=N4; clear nx; refine (uh C5 _ ?_).mono ?_; (focus (first | with_reducible exact (uh N4).x | with_reducible exact ((uh N4).al (Obj.cells #[.string { data:=#[] },.int .i64 0,.int .u32 0,.int .i64 0,.string { data:=#[] },.int .i64 0,.slice none 0 0,.slice none 0 0,.slice none 0 0,.slice none 0 0,.slice none 0 0,.slice none 0 0] 86)).x)); rintro e w5 ⟨rfl,hr⟩; (first | (have N5:=hide ((uh N4).re hr); have T5:Hid (Stay g w4 w5):=hide hr.1) | (have N5:=hide (((uh N4).al (Obj.cells #[.string { data:=#[] },.int .i64 0,.int .u32 0,.int .i64 0,.string { data:=#[] },.int .i64 0,.slice none 0 0,.slice none 0 0,.slice none 0 0,.slice none 0 0,.slice none 0 0,.slice none 0 0] 86)).re hr); have T5:Hid (Stay g w4 w5):=hide ((Stay.below (al1p w4 _) (by have:=(uh N4).2.lt; omega)).trans hr.1))); (first | have V5:=hide (And.intro (hr.1.box (uh V4).1 (by have:=(uh V4).2; omega)) (uh V4).2) | have V5:=hide (And.intro (hr.1.box (Box.new w4 #[.string { data:=#[] },.int .i64 0,.int .u32 0,.int .i64 0,.string { data:=#[] },.int .i64 0,.slice none 0 0,.slice none 0 0,.slice none 0 0,.slice none 0 0,.slice none 0 0,.slice none 0 0] 86) (by have:=(uh N4).size; omega)) (uh N4).size) | skip); have l5:=(uh N5).size; skip; clear hr))
    | (go_at_call 57; (have nx:=N3; clear nx; refine (uh C4 _ ?_).mono ?_; (focus (first | with_reducible exact (uh N3).x | with_reducible exact ((uh N3).al (Obj.cells #[.string { data:=#[] },.int .i64 0,.int .u32 0,.int .i64 0,.string { data:=#[] },.int .i64 0,.slice none 0 0,.slice none 0 0,.slice none 0 0,.slice none 0 0,.slice none 0 0,.slice none 0 0] 86)).x)); rintro e w4 ⟨rfl,hr⟩; (first | (have N4:=hide ((uh N3).re hr); have T4:Hid (Stay g w3 w4):=hide hr.1) | (have N4:=hide (((uh N3).al (Obj.cells #[.string { data:=#[] },.int .i64 0,.int .u32 0,.int .i64 0,.string { data:=#[] },.int .i64 0,.slice none 0 0,.slice none 0 0,.slice none 0 0,.slice none 0 0,.slice none 0 0,.slice none 0 0] 86)).re hr); have T4:Hid (Stay g w3 w4):=hide ((Stay.below (al1p w3 _) (by have:=(uh N3).2.lt; omega)).trans hr.1))); (first | have V4:=hide (And.intro (hr.1.box (uh V3).1 (by have:=(uh V3).2; omega)) (uh V3).2) | have V4:=hide (And.intro (hr.1.box (Box.new w3 #[.string { data:=#[] },.int .i64 0,.int .u32 0,.int .i64 0,.string { data:=#[] },.int .i64 0,.slice none 0 0,.slice none 0 0,.slice none 0 0,.slice none 0 0,.slice none 0 0,.slice none 0 0] 86) (by have:=(uh N3).size; omega)) (uh N3).size) | skip); have l4:=(uh N4).size; skip; clear hr))
    | (go_at_call 228; (have nx:=N2; clear nx; refine (uh C3 _ ?_).mono ?_; (focus (first | with_reducible exact (uh N2).x | with_reducible exact ((uh N2).al (Obj.cells #[.string { data:=#[] },.int .i64 0,.int .u32 0,.int .i64 0,.string { data:=#[] },.int .i64 0,.slice none 0 0,.slice none 0 0,.slice none 0 0,.slice none 0 0,.slice none 0 0,.slice none 0 0] 86)).x)); rintro e w3 ⟨rfl,hr⟩; (first | (have N3:=hide ((uh N2).re hr); have T3:Hid (Stay g w2 w3):=hide hr.1) | (have N3:=hide (((uh N2).al (Obj.cells #[.string { data:=#[] },.int .i64 0,.int .u32 0,.int .i64 0,.string { data:=#[] },.int .i64 0,.slice none 0 0,.slice none 0 0,.slice none 0 0,.slice none 0 0,.slice none 0 0,.slice none 0 0] 86)).re hr); have T3:Hid (Stay g w2 w3):=hide ((Stay.below (al1p w2 _) (by have:=(uh N2).2.lt; omega)).trans hr.1))); (first | have V3:=hide (And.intro (hr.1.box (uh V2).1 (by have:=(uh V2).2; omega)) (uh V2).2) | have V3:=hide (And.intro (hr.1.box (Box.new w2 #[.string { data:=#[] },.int .i64 0,.int .u32 0,.int .i64 0,.string { data:=#[] },.int .i64 0,.slice none 0 0,.slice none 0 0,.slice none 0 0,.slice none 0 0,.slice none 0 0,.slice none 0 0] 86) (by have:=(uh N2).size; omega)) (uh N2).size) | skip); have l3:=(uh N3).size; skip; clear hr))
    | (go_at_call 57; (have nx:=N1; clear nx; refine (uh C2 _ ?_).mono ?_; (focus (first | with_reducible exact (uh N1).x | with_reducible exact ((uh N1).al (Obj.cells #[.string { data:=#[] },.int .i64 0,.int .u32 0,.int .i64 0,.string { data:=#[] },.int .i64 0,.slice none 0 0,.slice none 0 0,.slice none 0 0,.slice none 0 0,.slice none 0 0,.slice none 0 0] 86)).x)); rintro e w2 ⟨rfl,hr⟩; (first | (have N2:=hide ((uh N1).re hr); have T2:Hid (Stay g w1 w2):=hide hr.1) | (have N2:=hide (((uh N1).al (Obj.cells #[.string { data:=#[] },.int .i64 0,.int .u32 0,.int .i64 0,.string { data:=#[] },.int .i64 0,.slice none 0 0,.slice none 0 0,.slice none 0 0,.slice none 0 0,.slice none 0 0,.slice none 0 0] 86)).re hr); have T2:Hid (Stay g w1 w2):=hide ((Stay.below (al1p w1 _) (by have:=(uh N1).2.lt; omega)).trans hr.1))); (first | have V2:=hide (And.intro (hr.1.box (uh V1).1 (by have:=(uh V1).2; omega)) (uh V1).2) | have V2:=hide (And.intro (hr.1.box (Box.new w1 #[.string { data:=#[] },.int .i64 0,.int .u32 0,.int .i64 0,.string { data:=#[] },.int .i64 0,.slice none 0 0,.slice none 0 0,.slice none 0 0,.slice none 0 0,.slice none 0 0,.slice none 0 0] 86) (by have:=(uh N1).size; omega)) (uh N1).size) | skip); have l2:=(uh N2).size; skip; clear hr))
    | (go_at_call 117; (have nx:=N0; clear nx; refine (uh C1 _ ?_).mono ?_; (focus (first | with_reducible exact (uh N0).x | with_reducible exact (uh N0a).x)); rintro e w1 ⟨rfl,hr⟩; (first | have N1:=hide ((uh N0).re hr) | have N1:=hide ((uh N0a).re hr)); (first | have V1:=hide (And.intro (hr.1.box ((Box.new W0 #[.string { data:=#[] },.int .i64 0,.int .u32 0,.int .i64 0,.string { data:=#[] },.int .i64 0,.slice none 0 0,.slice none 0 0,.slice none 0 0,.slice none 0 0,.slice none 0 0,.slice none 0 0] 86).below (bdrewp _)) (by omega)) (Nat.le_refl W0.heap.size)) | skip); have l1:=(uh N1).size; skip; clear hr)))
  ·have STO:=hide (And.intro ((uh N7).al (Obj.cells #[.string (strOfNums NM.1),.int .i64 KD.1,.int .u32 FV,.int .i64 IV.1,.string (strOfNums TX.1),.int .i64 0,.slice none 0 0,.slice none 0 0,.slice none 0 0,.slice none 0 0,.slice q6 FL.1.length d6,.slice q7 IS.1.length d7] 86)) (And.intro (Box.new w7 #[.string (strOfNums NM.1),.int .i64 KD.1,.int .u32 FV,.int .i64 IV.1,.string (strOfNums TX.1),.int .i64 0,.slice none 0 0,.slice none 0 0,.slice none 0 0,.slice none 0 0,.slice q6 FL.1.length d6,.slice q7 IS.1.length d7] 86) (fun (TS:List TypeId) (ht:¬ 86 ∈ TS) => (Kept.below (al1p w7 (Obj.cells #[.string (strOfNums NM.1),.int .i64 KD.1,.int .u32 FV,.int .i64 IV.1,.string (strOfNums TX.1),.int .i64 0,.slice none 0 0,.slice none 0 0,.slice none 0 0,.slice none 0 0,.slice q6 FL.1.length d6,.slice q7 IS.1.length d7] 86)):Kept TS 0 w7 _))))
   have KK:=hide ((uh STO).2.2 tenTS (by decide))
   have KF:=hide (And.intro (uh STO).1 (And.intro (And.intro (((own_ls (ownsRow_st (uh O6) (uh T7) gl6) rfl).ints (uh HFW)).keptT (own_tag (ownsRow_st (uh O6) (uh T7) gl6)) (by simp [tenTS]) (uh KK)) ((own_tag (ownsRow_st (uh O6) (uh T7) gl6)).kept (by simp [tenTS]) (uh KK))) (And.intro (And.intro (((own_ls (uh O7) rfl).ints (uh HIW)).keptT (own_tag (uh O7)) (by simp [tenTS]) (uh KK)) ((own_tag (uh O7)).kept (by simp [tenTS]) (uh KK))) (And.intro (uh STO).2.1 (uh N7).size))))
   clear STO KK
   generalize (w7.alloc (Obj.cells #[.string (strOfNums NM.1),.int .i64 KD.1,.int .u32 FV,.int .i64 IV.1,.string (strOfNums TX.1),.int .i64 0,.slice none 0 0,.slice none 0 0,.slice none 0 0,.slice none 0 0,.slice q6 FL.1.length d6,.slice q7 IS.1.length d7] 86)) = F at KF ⊢; generalize w7.heap.size = β at KF ⊢; exact key β F q6 d6 q7 d7 KF
  ·have STO:=hide (Rn.store12 (uh N7) (Below.refl _ _) (uh V7).1 (uh V7).2 gl6 (.string (strOfNums NM.1)) (.int .i64 KD.1) (.int .u32 FV) (.int .i64 IV.1) (.string (strOfNums TX.1)) (.int .i64 0) (.slice none 0 0) (.slice none 0 0) (.slice none 0 0) (.slice none 0 0) (.slice q6 FL.1.length d6) (.slice q7 IS.1.length d7))
   have KK:=hide ((uh STO).2.2 tenTS (by decide))
   have KF:=hide (And.intro (uh STO).1 (And.intro (And.intro (((own_ls (ownsRow_st (uh O6) (uh T7) gl6) rfl).ints (uh HFW)).keptT (own_tag (ownsRow_st (uh O6) (uh T7) gl6)) (by simp [tenTS]) (uh KK)) ((own_tag (ownsRow_st (uh O6) (uh T7) gl6)).kept (by simp [tenTS]) (uh KK))) (And.intro (And.intro (((own_ls (uh O7) rfl).ints (uh HIW)).keptT (own_tag (uh O7)) (by simp [tenTS]) (uh KK)) ((own_tag (uh O7)).kept (by simp [tenTS]) (uh KK))) (And.intro (uh STO).2.1 (uh V7).2))))
   clear STO KK
   exact key _ _ q6 d6 q7 d7 KF
  ·have STO:=hide (Rn.store12 (uh N7) (Below.refl _ _) (uh V7).1 (uh V7).2 gl6 (.string (strOfNums NM.1)) (.int .i64 KD.1) (.int .u32 FV) (.int .i64 IV.1) (.string (strOfNums TX.1)) (.int .i64 0) (.slice none 0 0) (.slice none 0 0) (.slice none 0 0) (.slice none 0 0) (.slice q6 FL.1.length d6) (.slice q7 IS.1.length d7))
   have KK:=hide ((uh STO).2.2 tenTS (by decide))
   have KF:=hide (And.intro (uh STO).1 (And.intro (And.intro (((own_ls (ownsRow_st (uh O6) (uh T7) gl6) rfl).ints (uh HFW)).keptT (own_tag (ownsRow_st (uh O6) (uh T7) gl6)) (by simp [tenTS]) (uh KK)) ((own_tag (ownsRow_st (uh O6) (uh T7) gl6)).kept (by simp [tenTS]) (uh KK))) (And.intro (And.intro (((own_ls (uh O7) rfl).ints (uh HIW)).keptT (own_tag (uh O7)) (by simp [tenTS]) (uh KK)) ((own_tag (uh O7)).kept (by simp [tenTS]) (uh KK))) (And.intro (uh STO).2.1 (uh V7).2))))
   clear STO KK
   exact key _ _ q6 d6 q7 d7 KF
  ·have STO:=hide (Rn.store12 (uh N7) (Below.refl _ _) (uh V7).1 (uh V7).2 gl6 (.string (strOfNums NM.1)) (.int .i64 KD.1) (.int .u32 FV) (.int .i64 IV.1) (.string (strOfNums TX.1)) (.int .i64 0) (.slice none 0 0) (.slice none 0 0) (.slice none 0 0) (.slice none 0 0) (.slice q6 FL.1.length d6) (.slice q7 IS.1.length d7))
   have KK:=hide ((uh STO).2.2 tenTS (by decide))
   have KF:=hide (And.intro (uh STO).1 (And.intro (And.intro (((own_ls (ownsRow_st (uh O6) (uh T7) gl6) rfl).ints (uh HFW)).keptT (own_tag (ownsRow_st (uh O6) (uh T7) gl6)) (by simp [tenTS]) (uh KK)) ((own_tag (ownsRow_st (uh O6) (uh T7) gl6)).kept (by simp [tenTS]) (uh KK))) (And.intro (And.intro (((own_ls (uh O7) rfl).ints (uh HIW)).keptT (own_tag (uh O7)) (by simp [tenTS]) (uh KK)) ((own_tag (uh O7)).kept (by simp [tenTS]) (uh KK))) (And.intro (uh STO).2.1 (uh V7).2))))
   clear STO KK
   exact key _ _ q6 d6 q7 d7 KF
  ·have STO:=hide (Rn.store12 (uh N7) (Below.refl _ _) (uh V7).1 (uh V7).2 gl6 (.string (strOfNums NM.1)) (.int .i64 KD.1) (.int .u32 FV) (.int .i64 IV.1) (.string (strOfNums TX.1)) (.int .i64 0) (.slice none 0 0) (.slice none 0 0) (.slice none 0 0) (.slice none 0 0) (.slice q6 FL.1.length d6) (.slice q7 IS.1.length d7))
   have KK:=hide ((uh STO).2.2 tenTS (by decide))
   have KF:=hide (And.intro (uh STO).1 (And.intro (And.intro (((own_ls (ownsRow_st (uh O6) (uh T7) gl6) rfl).ints (uh HFW)).keptT (own_tag (ownsRow_st (uh O6) (uh T7) gl6)) (by simp [tenTS]) (uh KK)) ((own_tag (ownsRow_st (uh O6) (uh T7) gl6)).kept (by simp [tenTS]) (uh KK))) (And.intro (And.intro (((own_ls (uh O7) rfl).ints (uh HIW)).keptT (own_tag (uh O7)) (by simp [tenTS]) (uh KK)) ((own_tag (uh O7)).kept (by simp [tenTS]) (uh KK))) (And.intro (uh STO).2.1 (uh V7).2))))
   clear STO KK
   exact key _ _ q6 d6 q7 d7 KF
  ·have STO:=hide (Rn.store12 (uh N7) (Below.refl _ _) (uh V7).1 (uh V7).2 gl6 (.string (strOfNums NM.1)) (.int .i64 KD.1) (.int .u32 FV) (.int .i64 IV.1) (.string (strOfNums TX.1)) (.int .i64 0) (.slice none 0 0) (.slice none 0 0) (.slice none 0 0) (.slice none 0 0) (.slice q6 FL.1.length d6) (.slice q7 IS.1.length d7))
   have KK:=hide ((uh STO).2.2 tenTS (by decide))
   have KF:=hide (And.intro (uh STO).1 (And.intro (And.intro (((own_ls (ownsRow_st (uh O6) (uh T7) gl6) rfl).ints (uh HFW)).keptT (own_tag (ownsRow_st (uh O6) (uh T7) gl6)) (by simp [tenTS]) (uh KK)) ((own_tag (ownsRow_st (uh O6) (uh T7) gl6)).kept (by simp [tenTS]) (uh KK))) (And.intro (And.intro (((own_ls (uh O7) rfl).ints (uh HIW)).keptT (own_tag (uh O7)) (by simp [tenTS]) (uh KK)) ((own_tag (uh O7)).kept (by simp [tenTS]) (uh KK))) (And.intro (uh STO).2.1 (uh V7).2))))
   clear STO KK
   exact key _ _ q6 d6 q7 d7 KF
  ·have STO:=hide (Rn.store12 (uh N7) (Below.refl _ _) (uh V7).1 (uh V7).2 gl6 (.string (strOfNums NM.1)) (.int .i64 KD.1) (.int .u32 FV) (.int .i64 IV.1) (.string (strOfNums TX.1)) (.int .i64 0) (.slice none 0 0) (.slice none 0 0) (.slice none 0 0) (.slice none 0 0) (.slice q6 FL.1.length d6) (.slice q7 IS.1.length d7))
   have KK:=hide ((uh STO).2.2 tenTS (by decide))
   have KF:=hide (And.intro (uh STO).1 (And.intro (And.intro (((own_ls (ownsRow_st (uh O6) (uh T7) gl6) rfl).ints (uh HFW)).keptT (own_tag (ownsRow_st (uh O6) (uh T7) gl6)) (by simp [tenTS]) (uh KK)) ((own_tag (ownsRow_st (uh O6) (uh T7) gl6)).kept (by simp [tenTS]) (uh KK))) (And.intro (And.intro (((own_ls (uh O7) rfl).ints (uh HIW)).keptT (own_tag (uh O7)) (by simp [tenTS]) (uh KK)) ((own_tag (uh O7)).kept (by simp [tenTS]) (uh KK))) (And.intro (uh STO).2.1 (uh V7).2))))
   clear STO KK
   exact key _ _ q6 d6 q7 d7 KF
  ·have STO:=hide (Rn.store12 (uh N7) (Below.refl _ _) (uh V7).1 (uh V7).2 gl6 (.string (strOfNums NM.1)) (.int .i64 KD.1) (.int .u32 FV) (.int .i64 IV.1) (.string (strOfNums TX.1)) (.int .i64 0) (.slice none 0 0) (.slice none 0 0) (.slice none 0 0) (.slice none 0 0) (.slice q6 FL.1.length d6) (.slice q7 IS.1.length d7))
   have KK:=hide ((uh STO).2.2 tenTS (by decide))
   have KF:=hide (And.intro (uh STO).1 (And.intro (And.intro (((own_ls (ownsRow_st (uh O6) (uh T7) gl6) rfl).ints (uh HFW)).keptT (own_tag (ownsRow_st (uh O6) (uh T7) gl6)) (by simp [tenTS]) (uh KK)) ((own_tag (ownsRow_st (uh O6) (uh T7) gl6)).kept (by simp [tenTS]) (uh KK))) (And.intro (And.intro (((own_ls (uh O7) rfl).ints (uh HIW)).keptT (own_tag (uh O7)) (by simp [tenTS]) (uh KK)) ((own_tag (uh O7)).kept (by simp [tenTS]) (uh KK))) (And.intro (uh STO).2.1 (uh V7).2))))
   clear STO KK
   exact key _ _ q6 d6 q7 d7 KF
 case kk =>
  intro β F q6 d6 q7 d7 KF
  obtain ⟨hN,hQ6,hQ7,hV,lb⟩:=uh KF
  have N7:=hide hN
  have Q6:=hide hQ6
  have Q7:=hide hQ7
  have VB7:=hide hV
  have KP7:Hid (Kept tenTS 0 F F):=hide (Kept.below (Below.refl _ _))
  have nb:β ≠ g:=by omega
  have v7:=(uh VB7).cell
  have x7:=(uh N7).cells1 (uh X0) n1
  clear KF hN hQ6 hQ7 hV
  go_wp2_with fail
  refine (uh CL _ _ _ (uh N7).x).mono ?_
  rintro e w8 ⟨rfl,hr⟩
  have N8:=hide ((uh N7).re hr)
  have VB8:=hide (hr.1.box (uh VB7) nb)
  have KP8:Hid (Kept tenTS 0 F w8):=hide ((uh KP7).trans (hr.1.keptT (Nat.zero_le g) (uh N7).2 (by decide)))
  have v8:=(uh VB8).cell
  have va8:=fun o => ((uh VB8).alloc o).cell
  have x8:=(uh N8).cells1 (uh X0) n1
  have xa8:=fun o => ((uh N8).al o).cells1 (uh X0) n1
  clear hr
  go_wp2_with fail
  refine (uh CL _ _ _ (uh N8).x).mono ?_
  rintro e w9 ⟨rfl,hr⟩
  have N9:=hide ((uh N8).re hr)
  have VB9:=hide (hr.1.box (uh VB8) nb)
  have KP9:Hid (Kept tenTS 0 F w9):=hide ((uh KP8).trans (hr.1.keptT (Nat.zero_le g) (uh N8).2 (by decide)))
  have v9:=(uh VB9).cell
  have va9:=fun o => ((uh VB9).alloc o).cell
  have x9:=(uh N9).cells1 (uh X0) n1
  have xa9:=fun o => ((uh N9).al o).cells1 (uh X0) n1
  clear hr
  go_wp2_with fail
  refine (uh CL _ _ _ (uh N9).x).mono ?_
  rintro e w10 ⟨rfl,hr⟩
  have N10:=hide ((uh N9).re hr)
  have VB10:=hide (hr.1.box (uh VB9) nb)
  have KP10:Hid (Kept tenTS 0 F w10):=hide ((uh KP9).trans (hr.1.keptT (Nat.zero_le g) (uh N9).2 (by decide)))
  have v10:=(uh VB10).cell
  have va10:=fun o => ((uh VB10).alloc o).cell
  have x10:=(uh N10).cells1 (uh X0) n1
  have xa10:=fun o => ((uh N10).al o).cells1 (uh X0) n1
  clear hr
  go_wp2_with fail
  refine (uh CI _ (uh N10).x).mono ?_
  rintro e w11 ⟨q11,d11,L11,rfl,hq⟩
  obtain ⟨h1,h2,hr⟩:=uh hq
  rw [uh HL0] at h1 hr
  have HL11:Hid (L11.map FA.f = inL l 5):=hide h1
  have HM11:=hide h2
  have N11:=hide ((uh N10).re hr)
  have VB11:=hide (hr.1.box (uh VB10) nb)
  have KP11:Hid (Kept tenTS 0 F w11):=hide ((uh KP10).trans (hr.1.keptT (Nat.zero_le g) (uh N10).2 (by decide)))
  have v11:=(uh VB11).cell
  have va11:=fun o => ((uh VB11).alloc o).cell
  have xa11:=fun o => ((uh N11).al o).cells1 (uh X0) n1
  have l11:=(uh N11).size
  have lv11:=(uh VB11).lt
  clear hq h1 h2 hr v8 v9 v10 va8 va9 va10 x8 x9 x10 xa8 xa9 xa10 x7 v7
  rw [uh HL0]
  obtain ⟨I5,hI5⟩:∃ I,(messageP l 5).1.2 = I:=⟨_,rfl⟩
  have HI5:Hid (inIs l 5 = I5):=hide hI5
  rw [hI5]
  clear hI5
  cases I5
  ·
   have t4:(!false && KD.1 == 4) = (KD.1 == 4):=by simp
   go_wp2_with fail
   refine (uh CB _ _ ((uh N11).al (Obj.cells #[.slice q11 L11.length d11,.pointer (some ⟨g,0,none⟩)] 58)).x).mono ?_
   rintro e w12 ⟨rfl,hr⟩
   have NN:=hide (((uh N11).al (Obj.cells #[.slice q11 L11.length d11,.pointer (some ⟨g,0,none⟩)] 58)).re hr)
   have VV:=hide (hr.1.box ((uh VB11).alloc (Obj.cells #[.slice q11 L11.length d11,.pointer (some ⟨g,0,none⟩)] 58)) nb)
   have KP12:Hid (Kept tenTS 0 F w12):=hide ((uh KP11).trans ((Kept.below (al1p w11 (Obj.cells #[.slice q11 L11.length d11,.pointer (some ⟨g,0,none⟩)] 58))).trans (hr.1.keptT (Nat.zero_le g) ((uh N11).al (Obj.cells #[.slice q11 L11.length d11,.pointer (some ⟨g,0,none⟩)] 58)).2 (by decide))))
   have AI:Hid (AtIn 0 w12 ⟨NM.1,KD.1,FV,IV.1,TX.1,noTen,noTA,FL.1,q6,d6,IS.1,q7,d7⟩):=hide ⟨uh HNB,uh HKW,uh HFV2,uh HIVW,uh HTB,tenT_0 _ _,⟨(uh Q6).1.keptT (uh Q6).2 (by simp [tenTS]) (uh KP12),(uh Q6).2.kept (by simp [tenTS]) (uh KP12)⟩,(uh Q7).1.keptT (uh Q7).2 (by simp [tenTS]) (uh KP12),(uh Q7).2.kept (by simp [tenTS]) (uh KP12)⟩
   have v12:=(uh VV).cell
   have x12:=(uh NN).cells1 (uh X0) n1
   clear hr KP12 va11 v11 xa11
   obtain ⟨ka,hka⟩:∃ a,keptA ⟨NM.1,KD.1,FV,IV.1,TX.1,noTen,noTA,FL.1,q6,d6,IS.1,q7,d7⟩ = a:=⟨_,rfl⟩
   have HKA:=hide hka
   have CKa:=hide (fun v => ckept_any ⟨NM.1,KD.1,FV,IV.1,TX.1,noTen,noTA,FL.1,q6,d6,IS.1,q7,d7⟩ v)
   rw [hka] at CKa
   clear hka
   obtain ⟨KB,hKB⟩:∃ b,kindB KD.1 = b:=⟨_,rfl⟩
   have HKB:=hide hKB
   unfold atCells at CKa
   simp only [tenCells,noTen,noTA,List.cons_append,List.nil_append,strV,List.length_nil] at CKa
   rw [hKB] at CKa
   clear hKB
   go_wp2_with fail
   refine (uh CKa _).mono ?_
   rintro e w20 ⟨rfl,hb⟩
   have N20:=hide ((uh NN).bel hb)
   have VB20:=hide ((uh VV).below hb)
   have AI20:=hide (((uh AI).kept (TS:=tenTS) (fun t h => h) (Kept.below hb)).keptA)
   have v20:=fun o => ((uh VB20).alloc o).cell
   have xa20:=fun o => ((uh N20).al o).cells1 (uh X0) n1
   have l20:=(uh N20).size
   rw [uh HKA] at AI20
   clear hb
   obtain ⟨knm,kkd,kf,ki,ks,⟨k1,k2,k3,k4,k5⟩,⟨kpd,kcd,kpf,kcf,kpi,kci,kpb,kcb⟩,kfl,kqf,kcf2,kis,kqi,kci2⟩:=ka
   simp only
   go_wp2_with fail
   refine (uh CO _ _ ((uh N20).al (Obj.cells #[.string (strOfNums knm),.int .i64 kkd,.int .u32 kf,.int .i64 ki,.string (strOfNums ks),.int .i64 k1,.slice kpd k2.length kcd,.slice kpf k3.length kcf,.slice kpi k4.length kci,.slice kpb k5.length kcb,.slice kqf kfl.length kcf2,.slice kqi kis.length kci2] 86)).x).mono ?_
   rintro e w21 ⟨rfl,hr⟩
   have N21:=hide (((uh N20).al (Obj.cells #[.string (strOfNums knm),.int .i64 kkd,.int .u32 kf,.int .i64 ki,.string (strOfNums ks),.int .i64 k1,.slice kpd k2.length kcd,.slice kpf k3.length kcf,.slice kpi k4.length kci,.slice kpb k5.length kcb,.slice kqf kfl.length kcf2,.slice kqi kis.length kci2] 86)).re hr)
   have VB21:=hide (hr.1.box ((uh VB20).alloc (Obj.cells #[.string (strOfNums knm),.int .i64 kkd,.int .u32 kf,.int .i64 ki,.string (strOfNums ks),.int .i64 k1,.slice kpd k2.length kcd,.slice kpf k3.length kcf,.slice kpi k4.length kci,.slice kpb k5.length kcb,.slice kqf kfl.length kcf2,.slice kqi kis.length kci2] 86)) nb)
   have GB21:=hide (hr.1.box (Box.new w20 #[.string (strOfNums knm),.int .i64 kkd,.int .u32 kf,.int .i64 ki,.string (strOfNums ks),.int .i64 k1,.slice kpd k2.length kcd,.slice kpf k3.length kcf,.slice kpi k4.length kci,.slice kpb k5.length kcb,.slice kqf kfl.length kcf2,.slice kqi kis.length kci2] 86) (by omega))
   have KP21:Hid (Kept tenTS 0 w20 w21):=hide ((Kept.below (al1p w20 (Obj.cells #[.string (strOfNums knm),.int .i64 kkd,.int .u32 kf,.int .i64 ki,.string (strOfNums ks),.int .i64 k1,.slice kpd k2.length kcd,.slice kpf k3.length kcf,.slice kpi k4.length kci,.slice kpb k5.length kcb,.slice kqf kfl.length kcf2,.slice kqi kis.length kci2] 86))).trans (hr.1.keptT (Nat.zero_le g) ((uh N20).al (Obj.cells #[.string (strOfNums knm),.int .i64 kkd,.int .u32 kf,.int .i64 ki,.string (strOfNums ks),.int .i64 k1,.slice kpd k2.length kcd,.slice kpf k3.length kcf,.slice kpi k4.length kci,.slice kpb k5.length kcb,.slice kqf kfl.length kcf2,.slice kqi kis.length kci2] 86)).2 (by decide)))
   have AI21:=hide ((uh AI20).kept (fun t h => h) (uh KP21))
   have v21:=(uh VB21).cell
   have x21:=(uh N21).cells1 (uh X0) n1
   clear hr v20 xa20 KP21 AI20
   go_wp2_with fail
   refine (uh CB _ _ (uh N21).x).mono ?_
   rintro e w22 ⟨rfl,hr⟩
   have N22:=hide ((uh N21).re hr)
   have GB22:=hide (hr.1.box (uh GB21) (by omega))
   have AI22:=hide ((uh AI21).kept (TS:=tenTS) (fun t h => h) (hr.1.keptT (Nat.zero_le g) (uh N21).2 (by decide)))
   have g22:=(uh GB22).cell
   have Y22:=hide ((uh N22).box (uh Y0) (by omega))
   have y22:=(uh Y22).cell
   have z22:=(uh Y22).frozen
   clear hr v21 x21 AI21
   go_wp2_with fail
   have Y23:=hide ((uh Y22).set12 (.string (strOfNums knm)) (.int .i64 kkd) (.int .u32 kf) (.int .i64 ki) (.string (strOfNums ks)) (.int .i64 k1) (.slice kpd k2.length kcd) (.slice kpf k3.length kcf) (.slice kpi k4.length kci) (.slice kpb k5.length kcb) (.slice kqf kfl.length kcf2) (.slice kqi kis.length kci2))
   have AI23:=hide ((uh AI22).kept (TS:=tenTS) (fun t h => h) (Kept.set12 (uh Y22) (by decide) (by omega) (.string (strOfNums knm)) (.int .i64 kkd) (.int .u32 kf) (.int .i64 ki) (.string (strOfNums ks)) (.int .i64 k1) (.slice kpd k2.length kcd) (.slice kpf k3.length kcf) (.slice kpi k4.length kci) (.slice kpb k5.length kcb) (.slice kqf kfl.length kcf2) (.slice kqi kis.length kci2)))
   have R23:=hide (((uh R0).thenN (uh N22)).set12 (b:=w.heap.size + 1) (by omega) gl (.string (strOfNums knm)) (.int .i64 kkd) (.int .u32 kf) (.int .i64 ki) (.string (strOfNums ks)) (.int .i64 k1) (.slice kpd k2.length kcd) (.slice kpf k3.length kcf) (.slice kpi k4.length kci) (.slice kpb k5.length kcb) (.slice kqf kfl.length kcf2) (.slice kqi kis.length kci2))
   refine bodyPost_ret ?_ rfl ⟨⟨knm,kkd,kf,ki,ks,(k1,k2,k3,k4,k5),⟨kpd,kcd,kpf,kcf,kpi,kci,kpb,kcb⟩,kfl,kqf,kcf2,kis,kqi,kci2⟩,rfl,hide ⟨fun hc => ?_,uh AI23,(uh R23).1.eq (congrArg lev ?_)⟩⟩
   ·simp [results,Tryz.results177,go_sem,(uh Y23).cell,atCells,tenCells,strV]
   ·rw [← uh HKA]
    exact attr_kept (uh HNM) (uh HKD) (uh HFV) (uh HIV) (uh HTX) (uh HFL) (uh HIS) hc (by rw [uh HI5,if_neg (by decide)])
   ·unfold attrCF inF
    rw [uh HNM,uh HKD,uh HFF,uh HIV,uh HTX,uh HFL,uh HIS,uh HI5,uh HKB]
    simp only [f3_assoc,no_f3,str_len,dec4096,Bool.false_eq_true,if_false,Bool.not_false,Bool.true_and]
  ·
   go_wp2_with fail
   refine (uh CB _ _ ((uh N11).al (Obj.cells #[.slice q11 L11.length d11,.pointer (some ⟨g,0,none⟩)] 58)).x).mono ?_
   rintro e w12 ⟨rfl,hr⟩
   have N12:=hide (((uh N11).al (Obj.cells #[.slice q11 L11.length d11,.pointer (some ⟨g,0,none⟩)] 58)).re hr)
   have VB12:=hide (hr.1.box ((uh VB11).alloc (Obj.cells #[.slice q11 L11.length d11,.pointer (some ⟨g,0,none⟩)] 58)) nb)
   have MB12:=hide (hr.1.box (Box.new w11 #[.slice q11 L11.length d11,.pointer (some ⟨g,0,none⟩)] 58) (by omega))
   have HM12:=hide (((uh HM11).stay (Stay.below (al1p w11 (Obj.cells #[.slice q11 L11.length d11,.pointer (some ⟨g,0,none⟩)] 58)) (by omega))).stay hr.1)
   have KP12:Hid (Kept tenTS 0 F w12):=hide ((uh KP11).trans ((Kept.below (al1p w11 (Obj.cells #[.slice q11 L11.length d11,.pointer (some ⟨g,0,none⟩)] 58))).trans (hr.1.keptT (Nat.zero_le g) ((uh N11).al (Obj.cells #[.slice q11 L11.length d11,.pointer (some ⟨g,0,none⟩)] 58)).2 (by decide))))
   have m12:=(uh MB12).cell
   have v12:=(uh VB12).cell
   have x12:=(uh N12).cells1 (uh X0) n1
   have l12:=(uh N12).size
   clear hr va11 v11 xa11
   go_wp2_with fail
   refine (creadTensor_any g q11 d11 L11 _ (uh N12).2 (uh HM12)).mono ?_
   rintro e w13 ⟨xt,rfl,hq⟩
   obtain ⟨h1,h2,hr⟩:=uh hq
   rw [uh HL11] at h1 hr
   have N13:=hide ((uh N12).re hr)
   have VB13:=hide (hr.1.box (uh VB12) nb)
   have KP13:Hid (Kept tenTS 0 F w13):=hide ((uh KP12).trans (hr.1.keptT (Nat.zero_le g) (uh N12).2 (by decide)))
   have v13:=(uh VB13).cell
   have f13:=(uh VB13).frozen
   have l13:=(uh N13).size
   obtain ⟨xnm,⟨T1,T2,T3,T4,T5⟩,⟨Apd,Acd,Apf,Acf,Api,Aci,Apb,Acb⟩⟩:=xt
   have HTD:Hid (tensorCF (inL l 5) = no3 → (tensorC (inL l 5)).2 = (T1,T2,T3,T4,T5)):=hide (fun hc => (by rw [← h1 hc]; rfl))
   have TI13:=hide h2.2
   simp only at TI13
   simp only [inCells,tenCells,strV]
   clear hq h1 h2 hr m12 v12 x12
   have ff:=field_T
   have VV:Hid (Box (((((w13.setCell ⟨β,5,none⟩ (.int .i64 T1)).setCell ⟨β,6,none⟩ (.slice Apd T2.length Acd)).setCell ⟨β,7,none⟩ (.slice Apf T3.length Acf)).setCell ⟨β,8,none⟩ (.slice Api T4.length Aci)).setCell ⟨β,9,none⟩ (.slice Apb T5.length Acb)) β #[.string (strOfNums NM.1),.int .i64 KD.1,.int .u32 FV,.int .i64 IV.1,.string (strOfNums TX.1),.int .i64 T1,.slice Apd T2.length Acd,.slice Apf T3.length Acf,.slice Api T4.length Aci,.slice Apb T5.length Acb,.slice q6 FL.1.length d6,.slice q7 IS.1.length d7] 86):=hide (by
    have a0:=(uh VB13).same 5 (.int .i64 T1)
    have a1:=a0.same 6 (.slice Apd T2.length Acd)
    have a2:=a1.same 7 (.slice Apf T3.length Acf)
    have a3:=a2.same 8 (.slice Api T4.length Aci)
    exact a3.same 9 (.slice Apb T5.length Acb))
   have NN:=hide ((((((uh N13).set (b:=β) lb gl6 5 (.int .i64 T1)).set (b:=β) lb gl6 6 (.slice Apd T2.length Acd)).set (b:=β) lb gl6 7 (.slice Apf T3.length Acf)).set (b:=β) lb gl6 8 (.slice Api T4.length Aci)).set (b:=β) lb gl6 9 (.slice Apb T5.length Acb))
   have KS:Hid (Kept tenTS 0 w13 (((((w13.setCell ⟨β,5,none⟩ (.int .i64 T1)).setCell ⟨β,6,none⟩ (.slice Apd T2.length Acd)).setCell ⟨β,7,none⟩ (.slice Apf T3.length Acf)).setCell ⟨β,8,none⟩ (.slice Api T4.length Aci)).setCell ⟨β,9,none⟩ (.slice Apb T5.length Acb))):=hide (Kept.setMany (off:=5) (uh VB13) (by decide) (by omega) [.int .i64 T1,.slice Apd T2.length Acd,.slice Apf T3.length Acf,.slice Api T4.length Aci,.slice Apb T5.length Acb])
   have AI:Hid (AtIn 0 (((((w13.setCell ⟨β,5,none⟩ (.int .i64 T1)).setCell ⟨β,6,none⟩ (.slice Apd T2.length Acd)).setCell ⟨β,7,none⟩ (.slice Apf T3.length Acf)).setCell ⟨β,8,none⟩ (.slice Api T4.length Aci)).setCell ⟨β,9,none⟩ (.slice Apb T5.length Acb)) ⟨NM.1,KD.1,FV,IV.1,TX.1,(T1,T2,T3,T4,T5),⟨Apd,Acd,Apf,Acf,Api,Aci,Apb,Acb⟩,FL.1,q6,d6,IS.1,q7,d7⟩):=hide ⟨uh HNB,uh HKW,uh HFV2,uh HIVW,uh HTB,(uh TI13).kept (fun t h => h) (uh KS),⟨(uh Q6).1.keptT (uh Q6).2 (by simp [tenTS]) ((uh KP13).trans (uh KS)),(uh Q6).2.kept (by simp [tenTS]) ((uh KP13).trans (uh KS))⟩,(uh Q7).1.keptT (uh Q7).2 (by simp [tenTS]) ((uh KP13).trans (uh KS)),(uh Q7).2.kept (by simp [tenTS]) ((uh KP13).trans (uh KS))⟩
   have vv:=(uh VV).cell
   obtain ⟨ka,hka⟩:∃ a,keptA ⟨NM.1,KD.1,FV,IV.1,TX.1,(T1,T2,T3,T4,T5),⟨Apd,Acd,Apf,Acf,Api,Aci,Apb,Acb⟩,FL.1,q6,d6,IS.1,q7,d7⟩ = a:=⟨_,rfl⟩
   have HKA:=hide hka
   have CKa:=hide (fun v => ckept_any ⟨NM.1,KD.1,FV,IV.1,TX.1,(T1,T2,T3,T4,T5),⟨Apd,Acd,Apf,Acf,Api,Aci,Apb,Acb⟩,FL.1,q6,d6,IS.1,q7,d7⟩ v)
   rw [hka] at CKa
   clear hka
   obtain ⟨KB,hKB⟩:∃ b,kindB KD.1 = b:=⟨_,rfl⟩
   have HKB:=hide hKB
   unfold atCells at CKa
   simp only [tenCells,List.cons_append,List.nil_append,strV] at CKa
   rw [hKB] at CKa
   clear hKB
   go_wp2_with fail
   refine (uh CKa _).mono ?_
   rintro e w20 ⟨rfl,hb⟩
   have N20:=hide ((uh NN).bel hb)
   have VB20:=hide ((uh VV).below hb)
   have AI20:=hide (((uh AI).kept (TS:=tenTS) (fun t h => h) (Kept.below hb)).keptA)
   have v20:=fun o => ((uh VB20).alloc o).cell
   have xa20:=fun o => ((uh N20).al o).cells1 (uh X0) n1
   have l20:=(uh N20).size
   rw [uh HKA] at AI20
   clear hb
   obtain ⟨knm,kkd,kf,ki,ks,⟨k1,k2,k3,k4,k5⟩,⟨kpd,kcd,kpf,kcf,kpi,kci,kpb,kcb⟩,kfl,kqf,kcf2,kis,kqi,kci2⟩:=ka
   simp only
   go_wp2_with fail
   refine (uh CO _ _ ((uh N20).al (Obj.cells #[.string (strOfNums knm),.int .i64 kkd,.int .u32 kf,.int .i64 ki,.string (strOfNums ks),.int .i64 k1,.slice kpd k2.length kcd,.slice kpf k3.length kcf,.slice kpi k4.length kci,.slice kpb k5.length kcb,.slice kqf kfl.length kcf2,.slice kqi kis.length kci2] 86)).x).mono ?_
   rintro e w21 ⟨rfl,hr⟩
   have N21:=hide (((uh N20).al (Obj.cells #[.string (strOfNums knm),.int .i64 kkd,.int .u32 kf,.int .i64 ki,.string (strOfNums ks),.int .i64 k1,.slice kpd k2.length kcd,.slice kpf k3.length kcf,.slice kpi k4.length kci,.slice kpb k5.length kcb,.slice kqf kfl.length kcf2,.slice kqi kis.length kci2] 86)).re hr)
   have VB21:=hide (hr.1.box ((uh VB20).alloc (Obj.cells #[.string (strOfNums knm),.int .i64 kkd,.int .u32 kf,.int .i64 ki,.string (strOfNums ks),.int .i64 k1,.slice kpd k2.length kcd,.slice kpf k3.length kcf,.slice kpi k4.length kci,.slice kpb k5.length kcb,.slice kqf kfl.length kcf2,.slice kqi kis.length kci2] 86)) nb)
   have GB21:=hide (hr.1.box (Box.new w20 #[.string (strOfNums knm),.int .i64 kkd,.int .u32 kf,.int .i64 ki,.string (strOfNums ks),.int .i64 k1,.slice kpd k2.length kcd,.slice kpf k3.length kcf,.slice kpi k4.length kci,.slice kpb k5.length kcb,.slice kqf kfl.length kcf2,.slice kqi kis.length kci2] 86) (by omega))
   have KP21:Hid (Kept tenTS 0 w20 w21):=hide ((Kept.below (al1p w20 (Obj.cells #[.string (strOfNums knm),.int .i64 kkd,.int .u32 kf,.int .i64 ki,.string (strOfNums ks),.int .i64 k1,.slice kpd k2.length kcd,.slice kpf k3.length kcf,.slice kpi k4.length kci,.slice kpb k5.length kcb,.slice kqf kfl.length kcf2,.slice kqi kis.length kci2] 86))).trans (hr.1.keptT (Nat.zero_le g) ((uh N20).al (Obj.cells #[.string (strOfNums knm),.int .i64 kkd,.int .u32 kf,.int .i64 ki,.string (strOfNums ks),.int .i64 k1,.slice kpd k2.length kcd,.slice kpf k3.length kcf,.slice kpi k4.length kci,.slice kpb k5.length kcb,.slice kqf kfl.length kcf2,.slice kqi kis.length kci2] 86)).2 (by decide)))
   have AI21:=hide ((uh AI20).kept (fun t h => h) (uh KP21))
   have v21:=(uh VB21).cell
   have x21:=(uh N21).cells1 (uh X0) n1
   clear hr v20 xa20 KP21 AI20
   go_wp2_with fail
   refine (uh CB _ _ (uh N21).x).mono ?_
   rintro e w22 ⟨rfl,hr⟩
   have N22:=hide ((uh N21).re hr)
   have GB22:=hide (hr.1.box (uh GB21) (by omega))
   have AI22:=hide ((uh AI21).kept (TS:=tenTS) (fun t h => h) (hr.1.keptT (Nat.zero_le g) (uh N21).2 (by decide)))
   have g22:=(uh GB22).cell
   have Y22:=hide ((uh N22).box (uh Y0) (by omega))
   have y22:=(uh Y22).cell
   have z22:=(uh Y22).frozen
   clear hr v21 x21 AI21
   go_wp2_with fail
   have Y23:=hide ((uh Y22).set12 (.string (strOfNums knm)) (.int .i64 kkd) (.int .u32 kf) (.int .i64 ki) (.string (strOfNums ks)) (.int .i64 k1) (.slice kpd k2.length kcd) (.slice kpf k3.length kcf) (.slice kpi k4.length kci) (.slice kpb k5.length kcb) (.slice kqf kfl.length kcf2) (.slice kqi kis.length kci2))
   have AI23:=hide ((uh AI22).kept (TS:=tenTS) (fun t h => h) (Kept.set12 (uh Y22) (by decide) (by omega) (.string (strOfNums knm)) (.int .i64 kkd) (.int .u32 kf) (.int .i64 ki) (.string (strOfNums ks)) (.int .i64 k1) (.slice kpd k2.length kcd) (.slice kpf k3.length kcf) (.slice kpi k4.length kci) (.slice kpb k5.length kcb) (.slice kqf kfl.length kcf2) (.slice kqi kis.length kci2)))
   have R23:=hide (((uh R0).thenN (uh N22)).set12 (b:=w.heap.size + 1) (by omega) gl (.string (strOfNums knm)) (.int .i64 kkd) (.int .u32 kf) (.int .i64 ki) (.string (strOfNums ks)) (.int .i64 k1) (.slice kpd k2.length kcd) (.slice kpf k3.length kcf) (.slice kpi k4.length kci) (.slice kpb k5.length kcb) (.slice kqf kfl.length kcf2) (.slice kqi kis.length kci2))
   refine bodyPost_ret ?_ rfl ⟨⟨knm,kkd,kf,ki,ks,(k1,k2,k3,k4,k5),⟨kpd,kcd,kpf,kcf,kpi,kci,kpb,kcb⟩,kfl,kqf,kcf2,kis,kqi,kci2⟩,rfl,hide ⟨fun hc => ?_,uh AI23,(uh R23).1.eq (congrArg lev ?_)⟩⟩
   ·simp [results,Tryz.results177,go_sem,(uh Y23).cell,atCells,tenCells,strV]
   ·rw [← uh HKA]
    exact attr_kept (uh HNM) (uh HKD) (uh HFV) (uh HIV) (uh HTX) (uh HFL) (uh HIS) hc (by rw [uh HI5,if_pos rfl]; exact uh HTD (attr_tens (uh HI5) hc))
   ·unfold attrCF inF
    rw [uh HNM,uh HKD,uh HFF,uh HIV,uh HTX,uh HFL,uh HIS,uh HI5,uh HKB]
    simp only [f3_assoc,no_f3,str_len,dec4096,if_true,Bool.not_true,Bool.false_and,bad3_no]
end Go.Proofs.YtmdlaahdgjegcaaGreat
