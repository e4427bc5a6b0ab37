import Derived.Test.YtmdlaahdgjegcaaGreatV43
set_option maxRecDepth 100000
set_option maxHeartbeats 8000000
namespace Go.Proofs.YtmdlaahdgjegcaaGreat
open Go.RowKit
set_option linter.unusedVariables false
theorem StIn.stT {g B C:Nat} {w:World} {a:StA} (h:StIn g B w a) (hf:∀ x ∈ a.fl,(Lit.int .u32 x).wf = true) (hs:∀ x ∈ a.sm,(Lit.int .i64 x).wf = true) (hn:∀ x ∈ a.nu,(Lit.int .i64 x).wf = true) (l1:a.fl.length ≤ 100000000) (l2:a.sm.length ≤ 100000000) (l3:a.nu.length ≤ 100000000):StT C w a :=
 ⟨⟨(own_ls h.1 rfl).ints hf,own_tag h.1⟩,(own_ls h.2.1 rfl).ints hs,⟨(own_ls h.2.2.1 rfl).ints hn,own_tag h.2.2.1⟩,h.2.2.2.1,l1,l2,l3⟩
theorem StT.below {B:Nat} {w w':World} {a:StA} (h:StT B w a) (hb:Below w.heap.size w w'):StT B w' a:=⟨⟨h.1.1.below hb,h.1.2.bel hb⟩,h.2.1.below hb,⟨h.2.2.1.1.below hb,h.2.2.1.2.bel hb⟩,h.2.2.2.1.below hb,h.2.2.2.2⟩
theorem TenT.dims {B:Nat} {w:World} {T:Ten} {A:TA} {q:Option Addr} {c:Nat} {ds:List Int} (h:TenT B w T A) (hd:Ints .i64 w q c ds) (ht:Tag 3 B w q ds.length):TenT B w (T.1,ds,T.2.2) ⟨q,c,A.pf,A.cf,A.pi,A.ci,A.pb,A.cb⟩:=⟨⟨h.1.1,hd,h.1.2.2⟩,ht,h.2.2⟩
theorem tensor_off {l:List Fld} (h:tensorOn l = false):tensorCF l = tensorBF l ∧ tensorBF l ≠ no3:=by
 refine ⟨by unfold tensorCF; rw [if_neg (by rw [h]; decide),f3_no],fun h2 => ?_⟩
 unfold tensorBF at h2
 simp only [no_iff,no_odd,dims_no] at h2
 unfold tensorOn at h
 rw [h2.1.2,bne,h2.1.1.1.1.1.1.1.1.2] at h
 exact absurd h (by decide)
theorem tensor_on {l:List Fld} (h:tensorOn l = true):tensorCF l = f3 (tensorBF l) (bad3 (!(stL l).2)):=by unfold tensorCF; rw [if_pos h]
theorem fours_le7 (l:List Int):(fours l).length ≤ l.length:=by
 have:=fours_len l; omega
theorem fix1_len:∀ f l,fix1 f = some l → l.length ≤ f.2.2.2.length + 1:=fun f l h => by
 unfold fix1 at h
 split at h
 ·simp at h; subst h; simp
 ·split at h
  ·simp at h; subst h; have:=fours_le7 f.2.2.2; omega
  ·cases h
theorem creadTensor_any (g:Nat) (q:Option Addr) (d:Nat) (L:List FA) (w:World) (hw:WstE g w) (h:MsIn g w q d L) :
  Calls Tryz.prog 121 #[msV q L.length d g] w fun e w' => Made (fun w x => InIn 0 w x) (fun x => .agg (inCells x).toArray) g (fun x => tensorCF (L.map FA.f) = no3 → x.d = tensorC (L.map FA.f)) (tensorCF (L.map FA.f)) w e w':=by
 have hok:=ms_ok h
 have HNB:Hid (isB (nameP (L.map FA.f) 8).1):=hide (text_isB (fun a ha => wf_isB (h.1.2 a ha).2.2.2.2.2.1))
 have HFW:Hid (∀ x ∈ (floatsP (L.map FA.f) 4).1,(Lit.int .u32 x).wf = true):=hide (fun x hx => u32_wf7 (floats_ok hok 4 x hx).1 (floats_ok hok 4 x hx).2)
 have HIW:Hid (∀ num,∀ x ∈ (intsP (L.map FA.f) num).1,(Lit.int .i64 x).wf = true):=hide (fun num x hx => i64_wf7 (ints_ok _ num x hx))
 have HLI:Hid (∀ num,(intsP (L.map FA.f) num).1.length ≤ 100000000):=hide (fun num => by
  have h1:(intsP (L.map FA.f) num).1.length ≤ sumD L + L.length:=by unfold intsP; rw [List.length_map]; exact list_len7 int1_len
  have:=h.2.2.2; omega)
 have HLF:Hid ((floatsP (L.map FA.f) 4).1.length ≤ 100000000):=hide (by
  have h1:(floatsP (L.map FA.f) 4).1.length ≤ sumD L + L.length:=list_len7 fix1_len
  have:=h.2.2.2; omega)
 obtain ⟨l,hl⟩:∃ l,L.map FA.f = l:=⟨_,rfl⟩
 have B0:=hide (al2p w (Obj.cells #[.slice q L.length d,.pointer (some ⟨g,0,none⟩)] 58) (Obj.cells #[.string { data:=#[] },.int .i64 0,.slice none 0 0,.slice none 0 0,.slice none 0 0,.slice none 0 0] 82))
 have X0:=hide (Box.alloc (Box.new w #[.slice q L.length d,.pointer (some ⟨g,0,none⟩)] 58) (Obj.cells #[.string { data:=#[] },.int .i64 0,.slice none 0 0,.slice none 0 0,.slice none 0 0,.slice none 0 0] 82))
 have Y0:Hid (Box ((w.alloc (Obj.cells #[.slice q L.length d,.pointer (some ⟨g,0,none⟩)] 58)).alloc (Obj.cells #[.string { data:=#[] },.int .i64 0,.slice none 0 0,.slice none 0 0,.slice none 0 0,.slice none 0 0] 82)) (w.heap.size + 1) #[.string { data:=#[] },.int .i64 0,.slice none 0 0,.slice none 0 0,.slice none 0 0,.slice none 0 0] 82):=hide (by have h:=Box.new (w.alloc (Obj.cells #[.slice q L.length d,.pointer (some ⟨g,0,none⟩)] 58)) #[.string { data:=#[] },.int .i64 0,.slice none 0 0,.slice none 0 0,.slice none 0 0,.slice none 0 0] 82; rw [alloc_size6] at h; exact h)
 have HW:=hide hw
 have gl:=hw.lt
 have HM:=hide h
 have n1:w.heap.size ≠ g:=by omega
 clear hw h hok
 rw [hl] at HNB HFW HIW HLI HLF ⊢
 have HL0:=hide hl
 unfold msV
 go_enter Tryz.func121,Tryz.ntmps121
 go_wp2_with fail
 have R0:=hide (RE.below (uh B0) (uh HW))
 have N0:=hide (Rn.refl ((uh HW).below (uh B0)))
 have HM0:=hide ((uh HM).stay (uh R0).1)
 generalize (w.alloc (Obj.cells #[.slice q L.length d,.pointer (some ⟨g,0,none⟩)] 58)).alloc (Obj.cells #[.string { data:=#[] },.int .i64 0,.slice none 0 0,.slice none 0 0,.slice none 0 0,.slice none 0 0] 82) = W0 at B0 X0 Y0 R0 N0 HM0 ⊢
 have l0:=(uh Y0).lt
 have gl0:g < W0.heap.size:=by omega
 have C1:=hide (fun v (hn:Rx g W0 v) => cnum_any g q d L 2 v hn.wst (hn.ms (uh HM0)))
 have CB:=hide (fun is v (hn:Rx g W0 v) => cnote_bad g q L.length d is v hn.wst)
 have CO:=hide (fun is v (hn:Rx g W0 v) => cnote_odd g q L.length d is v hn.wst)
 have CK:=hide (fun k v => cwidth_any k v)
 have C4:=hide (fun v (hn:Rx g W0 v) => clastm_any g q d L 3 2 v hn.wst (hn.ms (uh HM0)))
 have C6:=hide (fun v (hn:Rx g W0 v) => cnum_any g q d L 14 v hn.wst (hn.ms (uh HM0)))
 have C7:=hide (fun v (hn:Rx g W0 v) => cnam_any g q d L 8 v hn.wst (hn.ms (uh HM0)))
 have C8:=hide (fun v (hn:Rx g W0 v) => cnums_any g q d L 1 v hn.wst (hn.ms (uh HM0)))
 have C9:=hide (fun p c ds v (hn:Rx g W0 v) (hi:Ints .i64 v p c ds) => ccountm_any g q L.length d p c ds v hn.wst hi)
 have C10:=hide (fun v (hn:Rx g W0 v) => creadStored_any g q d L v hn.wst (hn.ms (uh HM0)))
 rw [hl] at C1 C4 C6 C7 C8 C10
 clear hl
 obtain ⟨KD,hKD⟩:∃ N,wholeP l 2 = N:=⟨_,rfl⟩
 have HKD:=hide hKD
 rw [hKD] at C1
 clear hKD
 obtain ⟨SG,hSG⟩:∃ N,lastV l 3 2 = N:=⟨_,rfl⟩
 have HSG:=hide hSG
 rw [hSG] at C4
 clear hSG
 obtain ⟨PL,hPL⟩:∃ N,wholeP l 14 = N:=⟨_,rfl⟩
 have HPL:=hide hPL
 rw [hPL] at C6
 clear hPL
 obtain ⟨NM,hNM⟩:∃ N,nameP l 8 = N:=⟨_,rfl⟩
 have HNM:=hide hNM
 rw [hNM] at C7 HNB
 clear hNM
 obtain ⟨DS,hDS⟩:∃ N,intsP l 1 = N:=⟨_,rfl⟩
 have HDS:=hide hDS
 rw [hDS] at C8
 clear hDS
 have HDW:Hid (∀ x ∈ DS.1,(Lit.int .i64 x).wf = true):=hide (by rw [← uh HDS]; exact uh HIW 1)
 have HDL:Hid (DS.1.length ≤ 100000000):=hide (by rw [← uh HDS]; exact uh HLI 1)
 have C8b:=hide (fun p c v hv => cchint_any p c DS.1 v hv (uh HDL))
 rw [List.map_id] at C8b
 unfold msV at C1 CB CO C4 C6 C7 C8 C9 C10
 unfold strV at C7
 refine (uh C1 _ (uh N0).x).mono ?_
 rintro e w1 ⟨rfl,hr⟩
 have N1:=hide ((uh N0).re hr)
 have x1:=(uh N1).cells1 (uh X0) n1
 have xa1:=fun o => ((uh N1).al o).cells1 (uh X0) n1
 clear hr
 go_wp2_with fail
 refine (uh CB _ _ (uh N1).x).mono ?_
 rintro e w2 ⟨rfl,hr⟩
 have N2:=hide ((uh N1).re hr)
 have x2:=(uh N2).cells1 (uh X0) n1
 have xa2:=fun o => ((uh N2).al o).cells1 (uh X0) n1
 clear hr
 go_wp2_with fail
 have XX:=hide ((uh N2).box (uh X0) n1)
 have CO2:=hide (fun is v (hn:Rx g w2 v) => cnote_odd g q L.length d is v hn.wst)
 unfold msV at CO2
 have M0:=hide (Rn.refl (uh N2).2).dr
 go_region_held3 (fun v => (∀ j,v.cell? ⟨w.heap.size,j,none⟩ = (#[.slice q L.length d,.pointer (some ⟨g,0,none⟩)]:Array Value)[j]?)) (first | with_reducible exact Rn.cells1 (uh M1) (uh XX) n1 | with_reducible exact Rn.cells1 (uh M0) (uh XX) n1)
  (first
   | (go_at_call 58; (refine (uh CO2 _ _ ?_).mono ?_; (focus (with_reducible exact (uh M0).x)); rintro e w3 ⟨rfl,hr⟩; have M1:=hide ((uh M0).re hr); skip; clear hr))
   | (go_at_call 138; (refine (uh CK _ _).mono ?_; rintro e v ⟨rfl,hv⟩; subst hv; skip)))
 have N3:=hide ((uh N2).1.thenN (uh M1))
 have x3:=(uh N3).cells1 (uh X0) n1
 have xa3:=fun o => ((uh N3).al o).cells1 (uh X0) n1
 clear XX
 go_wp2_with fail
 refine (uh C4 _ (uh N3).x).mono ?_
 rintro e w4 ⟨fa,rfl,hq⟩
 obtain ⟨_,_,_,hr⟩:=uh hq
 obtain ⟨an,awr,ax,ad,aq,ac⟩:=fa
 have N4:=hide ((uh N3).re hr)
 clear hq
 unfold faV
 simp only
 have x4:=(uh N4).cells1 (uh X0) n1
 have xa4:=fun o => ((uh N4).al o).cells1 (uh X0) n1
 clear hr
 go_wp2_with fail
 refine (uh CO _ _ ((uh N4).al _).x).mono ?_
 rintro e w5 ⟨rfl,hr⟩
 have N5:=hide (((uh N4).al _).re hr)
 have x5:=(uh N5).cells1 (uh X0) n1
 have xa5:=fun o => ((uh N5).al o).cells1 (uh X0) n1
 clear hr
 go_wp2_with fail
 have XX:=hide ((uh N5).box (uh X0) n1)
 have HM5:=hide ((uh HM0).stay (uh N5).1.1)
 have CO5:=hide (fun is v (hn:Rx g w5 v) => cnote_odd g q L.length d is v hn.wst)
 have C6b:=hide (fun v (hn:Rx g w5 v) => cnum_any g q d L 14 v hn.wst (hn.ms (uh HM5)))
 unfold msV at CO5 C6b
 rw [uh HL0,uh HPL] at C6b
 have K0:=hide (Rn.refl (uh N5).2).dr
 go_region_held3 (fun v => (∀ j,v.cell? ⟨w.heap.size,j,none⟩ = (#[.slice q L.length d,.pointer (some ⟨g,0,none⟩)]:Array Value)[j]?)) (first | with_reducible exact Rn.cells1 (uh K2) (uh XX) n1 | with_reducible exact Rn.cells1 (uh K1) (uh XX) n1 | with_reducible exact Rn.cells1 (uh K0) (uh XX) n1)
  (first
   | (go_at_call 58; (refine (uh CO5 _ _ ?_).mono ?_; (focus (with_reducible exact (uh K1).x)); rintro e w7 ⟨rfl,hr⟩; have K2:=hide ((uh K1).re hr); skip; clear hr))
   | (go_at_call 57; (refine (uh C6b _ ?_).mono ?_; (focus (with_reducible exact (uh K0).x)); rintro e w6 ⟨rfl,hr⟩; have K1:=hide ((uh K0).re hr); skip; clear hr)))
 have N6:=hide ((uh N5).1.thenN (uh K2))
 have x6:=(uh N6).cells1 (uh X0) n1
 have xa6:=fun o => ((uh N6).al o).cells1 (uh X0) n1
 clear XX
 go_wp2_with fail
 refine (uh C7 _ (uh N6).x).mono ?_
 rintro e w8 ⟨rfl,hr⟩
 have N7:=hide ((uh N6).re hr)
 have x7:=(uh N7).cells1 (uh X0) n1
 have xa7:=fun o => ((uh N7).al o).cells1 (uh X0) n1
 clear hr
 go_wp2_with fail
 refine (uh C8 _ (uh N7).x).mono ?_
 rintro e w9 ⟨v9,rfl,hq⟩
 obtain ⟨hO,hr⟩:=uh hq
 obtain ⟨q9,d9,e9⟩:=own_form7 hO
 subst e9
 have N8:=hide ((uh N7).re hr)
 have LD:=hide (own_ls hO rfl)
 clear hq hO hr
 go_wp2_with fail
 refine (uh C8b _ _ _ (uh LD)).mono ?_
 rintro e w10 ⟨v10,rfl,hO⟩
 obtain ⟨q10,d10,e10,_,_⟩:=hO.form
 subst e10
 have N9:=hide ((uh N8).bel hO.2)
 have ID:=hide ((own_ls hO.1 rfl).ints (uh HDW))
 have TD:Hid (Tag 3 0 w10 q10 DS.1.length):=hide (own_tag hO.1)
 have x9:=(uh N9).cells1 (uh X0) n1
 clear hO LD
 go_wp2_with fail
 refine (uh C9 _ _ DS.1 _ (uh N9).x (uh ID)).mono ?_
 rintro e w11 ⟨rfl,hr⟩
 have N10:=hide ((uh N9).re hr)
 have KP10:Hid (Kept tenTS 0 w10 w11):=hide (hr.1.keptT (Nat.zero_le g) (uh N9).2 (by decide))
 have ID10:=hide ((uh ID).keptT (uh TD) (by simp [tenTS]) (uh KP10))
 have TD10:=hide ((uh TD).kept (by simp [tenTS]) (uh KP10))
 have x10:=(uh N10).cells1 (uh X0) n1
 clear hr KP10 ID TD x9
 go_wp2_with fail
 refine (uh C10 _ (uh N10).x).mono ?_
 rintro e w12 ⟨st,rfl,hq⟩
 obtain ⟨hs,hi,hr⟩:=uh hq
 have N11:=hide ((uh N10).re hr)
 have KP11:Hid (Kept tenTS 0 w11 w12):=hide (hr.1.keptT (Nat.zero_le g) (uh N10).2 (by decide))
 have ID11:=hide ((uh ID10).keptT (uh TD10) (by simp [tenTS]) (uh KP11))
 have TD11:=hide ((uh TD10).kept (by simp [tenTS]) (uh KP11))
 have SI:Hid (StT 0 w12 st):=hide (hi.stT (by rw [hs.1]; exact uh HFW) (by rw [hs.2.1]; exact uh HIW 5) (by rw [hs.2.2.1]; exact uh HIW 7) (by rw [hs.1]; exact uh HLF) (by rw [hs.2.1]; exact uh HLI 5) (by rw [hs.2.2.1]; exact uh HLI 7))
 have HST:=hide hs
 have l12:=(uh N11).size
 clear hq hs hi hr KP11 ID10 TD10 x10
 obtain ⟨sfl,sqf,scf,ssm,sqs,scs,snu,sqn,scn,srw,sqr,scr,sis⟩:=st
 unfold stCells
 simp only at HST ⊢
 have SB:=hide (Box.new w12 #[.slice sqf sfl.length scf,.slice sqs ssm.length scs,.slice sqn snu.length scn,.slice sqr srw.length scr,.bool sis] 228)
 have sb:=(uh SB).cell
 have N12:=hide ((uh N11).al (Obj.cells #[.slice sqf sfl.length scf,.slice sqs ssm.length scs,.slice sqn snu.length scn,.slice sqr srw.length scr,.bool sis] 228))
 have Y12:=hide ((uh N12).box (uh Y0) (by omega))
 have y12:=(uh Y12).cell
 have z12:=(uh Y12).frozen
 have x12:=(uh N12).cells1 (uh X0) n1
 obtain ⟨CV,hCV⟩:∃ C,countV DS.1 = C:=⟨_,rfl⟩
 have HCV:=hide hCV
 have HC0:=hide (count_le DS.1)
 rw [hCV] at HC0 ⊢
 clear hCV
 have HON:Hid (tensorOn l = (CV.2 == 0 && widthV KD.1 != 0)):=hide (by unfold tensorOn; rw [uh HDS,uh HCV,uh HKD])
 have HBF:Hid (tensorBF l = f3 (f3 (f3 (f3 (f3 (f3 (f3 (f3 (f3 (f3 KD.2 (bad3 (KD.1 == 0))) (odd3 (widthV KD.1 == 0))) (bad3 (SG.2.2 != 0))) (odd3 SG.2.1)) PL.2) (odd3 (PL.1 != 0))) NM.2) DS.2) (dimsP DS.1).2) (storedF l)):=hide (by unfold tensorBF; rw [uh HDS,uh HKD,uh HSG,uh HPL,uh HNM])
 by_cases c1:CV.2 = 0
 ·have t1:(CV.2 == 0) = true:=by simpa using c1
  by_cases c2:widthV KD.1 = 0
  ·have t2:(widthV KD.1 == 0) = true:=by simpa using c2
   have HOF:=hide (tensor_off (l:=l) (by rw [uh HON,t1,bne,t2]; rfl))
   clear c1 c2
   have Y13:=hide ((uh Y12).set6 (.string { data:=#[] }) (.int .i64 0) (.slice none 0 0) (.slice none 0 0) (.slice none 0 0) (.slice none 0 0))
   have R13:=hide (((uh R0).thenN (uh N12)).set6 (b:=w.heap.size + 1) (by omega) gl (.string { data:=#[] }) (.int .i64 0) (.slice none 0 0) (.slice none 0 0) (.slice none 0 0) (.slice none 0 0))
   go_wp2_with fail
   refine (uh CK _ _).mono ?_
   rintro e v ⟨rfl,hv⟩
   subst hv
   go_wp2_with fail
   refine bodyPost_ret ?_ rfl ⟨noInA,rfl,hide ⟨fun hc => absurd ((uh HOF).1 ▸ hc) (uh HOF).2,⟨fun c hc => (by cases hc),tenT_0 _ _⟩,(uh R13).1.eq (congrArg lev ?_)⟩⟩
   ·simp [results,Tryz.results121,go_sem,(uh Y13).cell,inCells,noInA,tenCells,noTA,strV,strOfNums]
   ·rw [(uh HOF).1,uh HBF]
    simp only [f3_assoc,no_f3]
  ·have t2:(widthV KD.1 == 0) = false:=by simpa using c2
   have HON1:Hid (tensorOn l = true):=hide (by rw [uh HON,t1,bne,t2]; rfl)
   have HKN:Hid (knownB KD.1 = true):=hide (by have:=width_known KD.1; rw [t2] at this; simpa using this.symm)
   obtain ⟨CN,hCN⟩:∃ n:Nat,CV.1 = (n:Int):=⟨CV.1.toNat,by have:=(uh HC0).1; omega⟩
   have HCN:=hide hCN
   rw [hCN] at HC0 ⊢
   clear c1 c2 hCN
   have HSL:Hid (stL l = stEA KD.1 CN ⟨sfl,sqf,scf,ssm,sqs,scs,snu,sqn,scn,srw,sqr,scr,sis⟩):=hide (by unfold stL stEA; rw [uh HKD,uh HDS,uh HCV,(uh HST).1,(uh HST).2.1,(uh HST).2.2.1,(uh HST).2.2.2.1,(uh HST).2.2.2.2,uh HCN])
   have CT:=hide (fun v (hv:StT 0 v ⟨sfl,sqf,scf,ssm,sqs,scs,snu,sqn,scn,srw,sqr,scr,sis⟩) => ctensor_any ⟨sfl,sqf,scf,ssm,sqs,scs,snu,sqn,scn,srw,sqr,scr,sis⟩ KD.1 CN 0 v (uh HKN) (by have:=(uh HC0).2; omega) hv)
   unfold stCells at CT
   simp only at CT
   go_wp2_with fail
   refine (uh CK _ _).mono ?_
   rintro e v ⟨rfl,hv⟩
   subst hv
   go_wp2_with fail
   refine (uh CT _ ((uh SI).below (al1p w12 (Obj.cells #[.slice sqf sfl.length scf,.slice sqs ssm.length scs,.slice sqn snu.length scn,.slice sqr srw.length scr,.bool sis] 228)))).mono ?_
   rintro e w13 ⟨T,A,is,rfl,hq⟩
   obtain ⟨hT,his,hTT,hb⟩:=uh hq
   have N13:=hide ((uh N12).bel hb)
   have HT:=hide (And.intro hT his)
   have TI:=hide hTT
   have ID13:=hide ((uh ID11).below (bl_tr (al1p w12 (Obj.cells #[.slice sqf sfl.length scf,.slice sqs ssm.length scs,.slice sqn snu.length scn,.slice sqr srw.length scr,.bool sis] 228)) hb))
   have TD13:=hide ((uh TD11).bel (bl_tr (al1p w12 (Obj.cells #[.slice sqf sfl.length scf,.slice sqs ssm.length scs,.slice sqn snu.length scn,.slice sqr srw.length scr,.bool sis] 228)) hb))
   have x13:=fun o => ((uh N13).al o).cells1 (uh X0) n1
   have l13:=(uh N13).size
   clear hq hT his hTT hb
   obtain ⟨T1,T2,T3,T4,T5⟩:=T
   obtain ⟨Apd,Acd,Apf,Acf,Api,Aci,Apb,Acb⟩:=A
   unfold tenV tenCells
   simp only at HT TI ⊢
   have TO:∃ TO,TO = Obj.cells #[.int .i64 T1,.slice Apd T2.length Acd,.slice Apf T3.length Acf,.slice Api T4.length Aci,.slice Apb T5.length Acb] 80:=⟨_,rfl⟩
   clear TO
   go_wp2_with fail
   refine (uh CB _ _ ((uh N13).al _).x).mono ?_
   rintro e w14 ⟨rfl,hr⟩
   have N14:=hide (((uh N13).al _).re hr)
   have TB:=hide (hr.1.box (Box.new w13 #[.int .i64 T1,.slice Apd T2.length Acd,.slice Apf T3.length Acf,.slice Api T4.length Aci,.slice Apb T5.length Acb] 80) (by omega))
   have KP14:Hid (Kept tenTS 0 w13 w14):=hide ((Kept.below (al1p w13 _)).trans (hr.1.keptT (Nat.zero_le g) ((uh N13).al _).2 (by decide)))
   have TI14:=hide (((uh TI).kept (fun t h => h) (uh KP14)).dims ((uh ID13).keptT (uh TD13) (by simp [tenTS]) (uh KP14)) ((uh TD13).kept (by simp [tenTS]) (uh KP14)))
   have tb:=(uh TB).cell
   have tf:=(uh TB).frozen
   have Y14:=hide ((uh N14).box (uh Y0) (by omega))
   clear hr x13 KP14 TI ID13 TD13 ID11 TD11
   have TB2:Hid (Box (w14.setCell ⟨w13.heap.size,1,none⟩ (.slice q10 DS.1.length d10)) w13.heap.size #[.int .i64 T1,.slice q10 DS.1.length d10,.slice Apf T3.length Acf,.slice Api T4.length Aci,.slice Apb T5.length Acb] 80):=hide ((uh TB).same 1 (.slice q10 DS.1.length d10))
   have Y15:=hide ((uh Y14).other (show w.heap.size + 1 ≠ w13.heap.size by omega) 1 (.slice q10 DS.1.length d10))
   have N15:=hide ((uh N14).set (b:=w13.heap.size) (by omega) gl0 1 (.slice q10 DS.1.length d10))
   have TI15:=hide ((uh TI14).kept (fun t h => h) (Kept.set (TS:=tenTS) (B:=0) (j:=1) (u:=.slice q10 DS.1.length d10) (uh TB) (by omega) (by decide)))
   have tb2:=(uh TB2).cell
   have y15:=(uh Y15).cell
   have z15:=(uh Y15).frozen
   clear sb y12 z12 x12
   go_wp2_with fail
   have Y16:=hide ((uh Y15).set6 (.string (strOfNums NM.1)) (.int .i64 T1) (.slice q10 DS.1.length d10) (.slice Apf T3.length Acf) (.slice Api T4.length Aci) (.slice Apb T5.length Acb))
   have TI16:=hide ((uh TI15).kept (fun t h => h) (Kept.set6 (TS:=tenTS) (B:=0) (uh Y15) (by decide) (by omega) (.string (strOfNums NM.1)) (.int .i64 T1) (.slice q10 DS.1.length d10) (.slice Apf T3.length Acf) (.slice Api T4.length Aci) (.slice Apb T5.length Acb)))
   have R16:=hide (((uh R0).thenN (uh N15)).set6 (b:=w.heap.size + 1) (by omega) gl (.string (strOfNums NM.1)) (.int .i64 T1) (.slice q10 DS.1.length d10) (.slice Apf T3.length Acf) (.slice Api T4.length Aci) (.slice Apb T5.length Acb))
   refine bodyPost_ret ?_ rfl ⟨⟨NM.1,(T1,DS.1,T3,T4,T5),⟨q10,d10,Apf,Acf,Api,Aci,Apb,Acb⟩⟩,rfl,hide ⟨fun hc => ?_,⟨uh HNB,uh TI16⟩,(uh R16).1.eq (congrArg lev ?_)⟩⟩
   ·simp [results,Tryz.results121,go_sem,(uh Y16).cell,inCells,tenCells,strV]
   ·unfold tensorC
    rw [uh HSL,uh HNM,uh HDS,← (uh HT).1]
    rfl
   ·rw [tensor_on (uh HON1),uh HSL,uh HBF,← (uh HT).2]
    simp only [f3_assoc,no_f3]
 ·have t1:(CV.2 == 0) = false:=by simpa using c1
  have HOF:=hide (tensor_off (l:=l) (by rw [uh HON,t1]; rfl))
  clear c1
  have Y13:=hide ((uh Y12).set6 (.string { data:=#[] }) (.int .i64 0) (.slice none 0 0) (.slice none 0 0) (.slice none 0 0) (.slice none 0 0))
  have R13:=hide (((uh R0).thenN (uh N12)).set6 (b:=w.heap.size + 1) (by omega) gl (.string { data:=#[] }) (.int .i64 0) (.slice none 0 0) (.slice none 0 0) (.slice none 0 0) (.slice none 0 0))
  go_wp2_with fail
  refine bodyPost_ret ?_ rfl ⟨noInA,rfl,hide ⟨fun hc => absurd ((uh HOF).1 ▸ hc) (uh HOF).2,⟨fun c hc => (by cases hc),tenT_0 _ _⟩,(uh R13).1.eq (congrArg lev ?_)⟩⟩
  ·simp [results,Tryz.results121,go_sem,(uh Y13).cell,inCells,noInA,tenCells,noTA,strV,strOfNums]
  ·rw [(uh HOF).1,uh HBF]
   simp only [f3_assoc,no_f3]
end Go.Proofs.YtmdlaahdgjegcaaGreat
