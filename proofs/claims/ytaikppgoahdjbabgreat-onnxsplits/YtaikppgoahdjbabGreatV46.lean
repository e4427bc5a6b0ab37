import Derived.Test.YtaikppgoahdjbabGreatV33
import Derived.Test.YtaikppgoahdjbabGreatV45
set_option maxRecDepth 100000
set_option maxHeartbeats 8000000
namespace Go.Proofs.YtaikppgoahdjbabGreat
open Go.RowKit
set_option linter.unusedVariables false
theorem rb_mapg {α:Type} {z:α} {f:List Int → α} {ds:List (List Int)} {xs:List α} (h:Rb z (fun b x => x = f b) ds xs):xs = ds.map f:=by
 have:=rb_d (dd:=id) (F:=fun _ => no3) (C:=f) (z:=z) (ds:=ds) (xs:=xs) ⟨h.1,fun i hi _ => h.2 i hi⟩ (fun _ _ => rfl)
 rwa [List.map_id] at this
theorem vers_map:∀ (ds:List (List Int)) (v:Int),versS v (ds.map fun b => (⟨(textP (fieldsP b).1 1).1,(wholeP (fieldsP b).1 2).1⟩:SeA)) = versF v ds
 | [],v => rfl
 | b :: r,v => by
   rw [List.map_cons,versS,versF,vers_map r]
theorem model_graph {l:List Fld} (h:modelCF l = no3):graphCF (inL l 7) = no3:=by
 unfold modelCF at h
 rw [no_iff] at h
 exact h.2
theorem creadModel_any (g:Nat) (q:Option Addr) (d:Nat) (L:List FA) (w:World) (hw:WstE g w) (h:MsIn g w q d L) :
  Calls Tryz.prog 27 #[msV q L.length d g] w fun e w' => Made (fun w x => MoIn 0 w x) (fun x => moV x) g (fun x => modelCF (L.map FA.f) = no3 → x.d = graphC (inL (L.map FA.f) 7)) (modelCF (L.map FA.f)) w e w':=by
 obtain ⟨l,hl⟩:∃ l,L.map FA.f = l:=⟨_,rfl⟩
 have B0:=hide (al2p w (Obj.cells #[.slice q L.length d,.pointer (some ⟨g,0,none⟩)] 74) (Obj.cells #[.int .i64 0,.string { data:=#[] },.slice none 0 0,.slice none 0 0,.slice none 0 0,.slice none 0 0] 26))
 have X0:=hide (Box.alloc (Box.new w #[.slice q L.length d,.pointer (some ⟨g,0,none⟩)] 74) (Obj.cells #[.int .i64 0,.string { data:=#[] },.slice none 0 0,.slice none 0 0,.slice none 0 0,.slice none 0 0] 26))
 have Y0:Hid (Box ((w.alloc (Obj.cells #[.slice q L.length d,.pointer (some ⟨g,0,none⟩)] 74)).alloc (Obj.cells #[.int .i64 0,.string { data:=#[] },.slice none 0 0,.slice none 0 0,.slice none 0 0,.slice none 0 0] 26)) (w.heap.size + 1) #[.int .i64 0,.string { data:=#[] },.slice none 0 0,.slice none 0 0,.slice none 0 0,.slice none 0 0] 26):=hide (by have h:=Box.new (w.alloc (Obj.cells #[.slice q L.length d,.pointer (some ⟨g,0,none⟩)] 74)) #[.int .i64 0,.string { data:=#[] },.slice none 0 0,.slice none 0 0,.slice none 0 0,.slice none 0 0] 26; rw [alloc_size6] at h; exact h)
 have HW:=hide hw
 have gl:=hw.lt
 have HM:=hide h
 have n1:w.heap.size ≠ g:=by omega
 clear hw h
 rw [hl]
 have HL0:=hide hl
 unfold msV
 have R0:=hide (RE.below (uh B0) (uh HW))
 have N0:=hide (Rn.refl ((uh HW).below (uh B0)))
 have HM0:=hide ((uh HM).stay (uh R0).1)
 have x0:=(uh X0).cell
 go_enter Tryz.func27,Tryz.ntmps27
 go_wp2_with fail
 generalize (w.alloc (Obj.cells #[.slice q L.length d,.pointer (some ⟨g,0,none⟩)] 74)).alloc (Obj.cells #[.int .i64 0,.string { data:=#[] },.slice none 0 0,.slice none 0 0,.slice none 0 0,.slice none 0 0] 26) = W0 at B0 X0 Y0 R0 N0 HM0 x0 ⊢
 have l0:=(uh Y0).lt
 have gl0:g < W0.heap.size:=by omega
 have C1:=hide (fun v (hn:Rx g W0 v) => cnum_any g q d L 1 v hn.wst (hn.ms (uh HM0)))
 have CI:=hide (fun v (hn:Rx g W0 v) => cinnerm_any g q d L 7 v hn.wst (hn.ms (uh HM0)))
 have CB:=hide (fun is v (hn:Rx g W0 v) => cnote_bad g q L.length d is v hn.wst)
 rw [hl] at C1
 clear hl
 obtain ⟨KV,hKV⟩:∃ N,wholeP l 1 = N:=⟨_,rfl⟩
 have HKV:=hide hKV
 rw [hKV] at C1
 clear hKV
 unfold msV at C1 CI CB
 refine (uh C1 _ (uh N0).x).mono ?_
 rintro e w1 ⟨rfl,hr⟩
 have N1:=hide ((uh N0).re hr)
 have XX:=hide ((uh N1).box (uh X0) n1)
 have x1:=(uh XX).cell
 have HM1:=hide ((uh HM0).stay (uh N1).1.1)
 have M0:=hide (Rn.refl (uh N1).2).dr
 have CS:=hide (fun v (hn:Rx g w1 v) => cmsgsSet_any g q d L 8 (fun b (x:SeA) => x = ⟨(textP (fieldsP b).1 1).1,(wholeP (fieldsP b).1 2).1⟩) (fun b => setCF (fieldsP b).1) v hn.wst (hn.ms (uh HM1)) (fun u su wu b q' d' L' hm' hl' => (by
  have h1:=creadSet_any g q' d' L' u wu hm'
  rw [hl'] at h1
  exact h1)))
 have CO1:=hide (fun is v (hn:Rx g w1 v) => cnote_odd g q L.length d is v hn.wst)
 unfold msV at CS CO1
 clear hr
 go_wp2_with fail
 go_region_held3 (fun v => (∀ j,v.cell? ⟨w.heap.size,j,none⟩ = (#[.slice q L.length d,.pointer (some ⟨g,0,none⟩)]:Array Value)[j]?)) (first | with_reducible exact Rn.cells1 (uh M3) (uh XX) n1 | with_reducible exact Rn.cells1 (uh M2) (uh XX) n1 | with_reducible exact Rn.cells1 (uh M1) (uh XX) n1 | with_reducible exact Rn.cells1 (uh M0) (uh XX) n1)
  (first
   | (go_at_call 46; (have nx:=M2; clear nx; refine (uh CO1 _ _ ?_).mono ?_; (focus (with_reducible exact (uh M2).x)); rintro e w4 ⟨rfl,hr⟩; have M3:=hide ((uh M2).re hr); clear hr))
   | (go_at_call 47; (have nx:=M1; clear nx; refine (cknown_any b2 xs2 _ (uh MR2) (uh I2).1 (by have:=(uh I2).2; omega)).mono ?_; rintro e w3 ⟨rfl,hb⟩; have M2:=hide ((uh M1).bel hb); clear hb))
   | (go_at_call 48; (refine (uh CS _ ?_).mono ?_; (focus (with_reducible exact (uh M0).x)); rintro e w2 ⟨b2,xs2,rfl,hq⟩; obtain ⟨g1,g2,g3,g4,hr⟩:=uh hq; have M1:=hide ((uh M0).re hr); have MR2:=hide g3; have I2:=hide (And.intro g2 (g1.small (uh HM1))); have G2:=hide (rb_mapg g1); clear hq g1 g2 g3 g4 hr)))
 have N4:=hide ((uh N1).1.thenN (uh M3))
 have x4:=(uh N4).cells1 (uh X0) n1
 clear XX x1 MR2 I2
 go_wp2_with fail
 refine (uh CI _ (uh N4).x).mono ?_
 rintro e w5 ⟨q5,d5,L5,rfl,hq⟩
 obtain ⟨h1,h2,hr⟩:=uh hq
 rw [uh HL0] at h1 hr
 have HL5:Hid (L5.map FA.f = inL l 7):=hide h1
 have HM5:=hide h2
 have N5:=hide ((uh N4).re hr)
 have xa5:=fun o => ((uh N5).al o).cells1 (uh X0) n1
 have l5:=(uh N5).size
 clear hq h1 h2 hr x4
 rw [uh HL0]
 obtain ⟨I7,hI7⟩:∃ I,(messageP l 7).1.2 = I:=⟨_,rfl⟩
 have HI7:Hid (inIs l 7 = I7):=hide hI7
 rw [hI7]
 clear hI7
 go_wp2_with fail
 refine (uh CB _ _ ((uh N5).al (Obj.cells #[.slice q5 L5.length d5,.pointer (some ⟨g,0,none⟩)] 74)).x).mono ?_
 rintro e w6 ⟨rfl,hr⟩
 have N6:=hide (((uh N5).al (Obj.cells #[.slice q5 L5.length d5,.pointer (some ⟨g,0,none⟩)] 74)).re hr)
 have MB6:=hide (hr.1.box (Box.new w5 #[.slice q5 L5.length d5,.pointer (some ⟨g,0,none⟩)] 74) (by omega))
 have HM6:=hide (((uh HM5).stay (Stay.below (al1p w5 (Obj.cells #[.slice q5 L5.length d5,.pointer (some ⟨g,0,none⟩)] 74)) (by omega))).stay hr.1)
 have m6:=(uh MB6).cell
 clear hr xa5
 go_wp2_with fail
 refine (creadGraph_any g q5 d5 L5 _ (uh N6).2 (uh HM6)).mono ?_
 rintro e w7 ⟨x,rfl,hq⟩
 obtain ⟨h1,h2,hr⟩:=uh hq
 rw [uh HL5] at h1 hr
 have G7:=hide h1
 have MI7:=hide h2
 have N7:=hide ((uh R0).thenN ((uh N6).re hr))
 have Y7:=hide (hr.1.box ((uh N6).box (uh Y0) (by omega)) (by omega))
 have y7:=(uh Y7).cell
 have z7:=(uh Y7).frozen
 clear hq h1 h2 hr m6
 obtain ⟨xops,xnm,xnodes,xqn,xcn,xinits,xqi,xci,xinp,xqp,xcp,xout,xqo,xco⟩:=x
 simp only [moV,moCells,strV]
 go_wp2_with fail
 have Y8:=hide ((uh Y7).set6 (.int .i64 xops) (.string (strOfNums xnm)) (.slice xqn xnodes.length xcn) (.slice xqi xinits.length xci) (.slice xqp xinp.length xcp) (.slice xqo xout.length xco))
 have MI8:=hide ((uh MI7).kept (Kept.set6 (uh Y7) (by decide) (by omega) (.int .i64 xops) (.string (strOfNums xnm)) (.slice xqn xnodes.length xcn) (.slice xqi xinits.length xci) (.slice xqp xinp.length xcp) (.slice xqo xout.length xco)))
 have R8:=hide ((uh N7).set6 (b:=w.heap.size + 1) (by omega) gl (.int .i64 xops) (.string (strOfNums xnm)) (.slice xqn xnodes.length xcn) (.slice xqi xinits.length xci) (.slice xqp xinp.length xcp) (.slice xqo xout.length xco))
 refine bodyPost_ret ?_ rfl ⟨⟨xops,xnm,xnodes,xqn,xcn,xinits,xqi,xci,xinp,xqp,xcp,xout,xqo,xco⟩,rfl,hide ⟨fun hc => uh G7 (model_graph hc),uh MI8,(uh R8).1.eq (congrArg lev ?_)⟩⟩
 ·simp [results,Tryz.results27,go_sem,(uh Y8).cell,moV,moCells,strV]
 ·unfold modelCF msF inF
  rw [uh HKV,uh HI7,← vers_map,← uh HL0,← uh G2]
  simp only [f3_assoc,no_f3]
def DecP (E:Int) (b:List Int) (x:MoA):Prop:=(E ≠ 0 → x = noMoA) ∧ (E = 0 → x.d = (decodeV b).1)
def decC (b:List Int):Int:=if 4194304 < b.length then 8 else if lev (decodeF b) = 3 then 6 else if lev (decodeF b) = 2 then 7 else if lev (decodeF b) = 1 then 8 else 0
theorem lev_zero {f:F3} (h:lev f = 0):f = no3:=by
 obtain ⟨a,b,c⟩:=f
 cases a <;> cases b <;> cases c <;> first | rfl | (exact absurd h (by decide))
theorem noMo_in (B:Nat) (w:World):MoIn B w noMoA:=⟨rfl,fun c hc => (by cases hc),⟨fun x hx => (by cases hx),Rc.nil w,Tag.nil _ _ _ _⟩,⟨fun x hx => (by cases hx),Rc.nil w,Tag.nil _ _ _ _⟩,⟨fun x hx => (by cases hx),Rc.nil w,Tag.nil _ _ _ _⟩,fun x hx => (by cases hx),Rc.nil w,Tag.nil _ _ _ _⟩
theorem cdecode_any (p:Option Addr) (c:Nat) (b:List Int) (w:World) (hb:Ints .u8 w p c b) :
  Calls Tryz.prog 11 #[.slice p b.length c] w fun e w' => ∃ x:MoA,e = .returned (.tuple #[moV x,.int .i64 (decC b)]) ∧ Hid (DecP (decC b) b x ∧ MoIn 0 w' x ∧ Below w.heap.size w w'):=by
 have HI:=hide hb
 have HIB:Hid (isB b):=hide (wf_isB hb.2.2.1)
 have nl:=hb.len
 clear hb
 by_cases hl:4194304 < b.length
 ·have hi:(4194304:Int) < (b.length:Int):=by omega
  rw [show decC b = 8 from by unfold decC; rw [if_pos hl]]
  have Y0:=hide (Box.new w #[.int .i64 0,.string { data:=#[] },.slice none 0 0,.slice none 0 0,.slice none 0 0,.slice none 0 0] 26)
  have B0:=hide (al1p w (Obj.cells #[.int .i64 0,.string { data:=#[] },.slice none 0 0,.slice none 0 0,.slice none 0 0,.slice none 0 0] 26))
  clear hl
  go_enter Tryz.func11,Tryz.ntmps11
  go_wp2_with fail
  refine bodyPost_ret ?_ rfl ⟨noMoA,rfl,hide ⟨⟨fun _ => rfl,fun h => absurd h (by decide)⟩,noMo_in _ _,uh B0⟩⟩
  simp [results,Tryz.results11,go_sem,(uh Y0).cell,moV,moCells,strV,noMoA,str_nil7]
 ·have hi:¬ (4194304:Int) < (b.length:Int):=by omega
  obtain ⟨EE,hEE⟩:∃ E,decC b = E:=⟨_,rfl⟩
  have HEE:=hide hEE
  rw [hEE]
  clear hEE
  have B0:=hide (al2p w (Obj.cells #[.int .i64 0,.string { data:=#[] },.slice none 0 0,.slice none 0 0,.slice none 0 0,.slice none 0 0] 26) (Obj.cells #[.int .i64 0] 69))
  have Y0:=hide ((Box.new w #[.int .i64 0,.string { data:=#[] },.slice none 0 0,.slice none 0 0,.slice none 0 0,.slice none 0 0] 26).alloc (Obj.cells #[.int .i64 0] 69))
  have WB0:Hid (Wst (w.heap.size + 1) ((w.alloc (Obj.cells #[.int .i64 0,.string { data:=#[] },.slice none 0 0,.slice none 0 0,.slice none 0 0,.slice none 0 0] 26)).alloc (Obj.cells #[.int .i64 0] 69)) 0):=hide (by have h:=Box.new (w.alloc (Obj.cells #[.int .i64 0,.string { data:=#[] },.slice none 0 0,.slice none 0 0,.slice none 0 0,.slice none 0 0] 26)) #[.int .i64 0] 69; rw [alloc_size6] at h; exact h)
  have C1:=hide (copened_any (w.heap.size + 1) none 0 0 p c b ((w.alloc (Obj.cells #[.int .i64 0,.string { data:=#[] },.slice none 0 0,.slice none 0 0,.slice none 0 0,.slice none 0 0] 26)).alloc (Obj.cells #[.int .i64 0] 69)) ⟨0,by omega,by omega,uh WB0⟩ ((uh HI).below (uh B0)) (by omega))
  unfold msV at C1
  go_enter Tryz.func11,Tryz.ntmps11
  go_wp2_with fail
  refine (uh C1).mono ?_
  rintro e w1 ⟨q1,d1,L1,rfl,hq⟩
  obtain ⟨h1,h2,hr,_⟩:=uh hq
  have HW0:Hid (WstE (w.heap.size + 1) ((w.alloc (Obj.cells #[.int .i64 0,.string { data:=#[] },.slice none 0 0,.slice none 0 0,.slice none 0 0,.slice none 0 0] 26)).alloc (Obj.cells #[.int .i64 0] 69))):=hide ⟨0,by omega,by omega,uh WB0⟩
  have R1:=hide hr
  have HL1:=hide h1
  have C2:=hide (creadModel_any (w.heap.size + 1) q1 d1 L1 w1 (hr.wst (uh HW0)) h2)
  rw [h1] at C2
  unfold msV at C2
  clear hq h1 h2 hr C1
  go_wp2_with fail
  refine (uh C2).mono ?_
  rintro e w2 ⟨x,rfl,hq⟩
  obtain ⟨h1,h2,hr⟩:=uh hq
  have R2:=hide ((uh R1).trans hr)
  have G2:=hide h1
  have MI2:=hide h2
  obtain ⟨xops,xnm,xnodes,xqn,xcn,xinits,xqi,xci,xinp,xqp,xcp,xout,xqo,xco⟩:=x
  obtain ⟨K,hK⟩:∃ K,lev (decodeF b) = K:=⟨_,rfl⟩
  have HK:=hide hK
  have k0:0 ≤ K:=by rw [← hK]; exact lev_pos _
  have k3:K ≤ 3:=by rw [← hK]; exact lev_le _
  have WB2:Hid (Box w2 (w.heap.size + 1) #[.int .i64 K] 69):=hide (by
   have h:=(uh R2).2 0 (by omega) (uh WB0)
   have e:max 0 (lev (f3 (fieldsP b).2 (modelCF (fieldsP b).1))) = K:=by
    have:lev (f3 (fieldsP b).2 (modelCF (fieldsP b).1)) = K:=hK
    rw [this]; omega
   rw [e] at h
   exact h)
  have Y2:=hide ((uh R2).1.box (uh Y0) (by omega))
  have B2:=hide (bl_tr7 (uh B0) (bl_mono7 (uh R2).1.1 (show w.heap.size ≤ (w.heap.size + 1) by omega)))
  have l2:=(uh WB2).lt
  have WB3:=hide ((uh WB2).alloc (Obj.cells #[.int .i64 xops,.string (strOfNums xnm),.slice xqn xnodes.length xcn,.slice xqi xinits.length xci,.slice xqp xinp.length xcp,.slice xqo xout.length xco] 26))
  have Y3:=hide ((uh Y2).alloc (Obj.cells #[.int .i64 xops,.string (strOfNums xnm),.slice xqn xnodes.length xcn,.slice xqi xinits.length xci,.slice xqp xinp.length xcp,.slice xqo xout.length xco] 26))
  have B3:=hide (bl_tr7 (uh B2) (bl_mono7 (al1p w2 (Obj.cells #[.int .i64 xops,.string (strOfNums xnm),.slice xqn xnodes.length xcn,.slice xqi xinits.length xci,.slice xqp xinp.length xcp,.slice xqo xout.length xco] 26)) (by omega)))
  have MI3:=hide ((uh MI2).below (al1p w2 (Obj.cells #[.int .i64 xops,.string (strOfNums xnm),.slice xqn xnodes.length xcn,.slice xqi xinits.length xci,.slice xqp xinp.length xcp,.slice xqo xout.length xco] 26)))
  have w3:=(uh WB3).cell
  have y3:=(uh Y3).cell
  have z3:=(uh Y3).frozen
  clear hq h1 h2 hr hK C2 R1 R2 B0 B2 WB0 HW0
  simp only [moV,moCells,strV]
  have hcases:K = 0 ∨ K = 1 ∨ K = 2 ∨ K = 3:=by omega
  clear k0 k3
  rcases hcases with rfl | rfl | rfl | rfl
  ·
   have e9:EE = 0:=by rw [← uh HEE]; unfold decC; rw [if_neg (by omega),uh HK]; rfl
   subst e9
   go_wp2_with fail
   have Y4:=hide ((uh Y3).set6 (.int .i64 xops) (.string (strOfNums xnm)) (.slice xqn xnodes.length xcn) (.slice xqi xinits.length xci) (.slice xqp xinp.length xcp) (.slice xqo xout.length xco))
   have B4:=hide (bset6 (uh B3) (Nat.le_refl w.heap.size) (.int .i64 xops) (.string (strOfNums xnm)) (.slice xqn xnodes.length xcn) (.slice xqi xinits.length xci) (.slice xqp xinp.length xcp) (.slice xqo xout.length xco))
   have MI4:=hide ((uh MI3).kept (Kept.set6 (uh Y3) (by decide) (by omega) (.int .i64 xops) (.string (strOfNums xnm)) (.slice xqn xnodes.length xcn) (.slice xqi xinits.length xci) (.slice xqp xinp.length xcp) (.slice xqo xout.length xco)))
   have GD:Hid (MoA.d ⟨xops,xnm,xnodes,xqn,xcn,xinits,xqi,xci,xinp,xqp,xcp,xout,xqo,xco⟩ = (decodeV b).1):=hide (by
    have hn:decodeF b = no3:=lev_zero (uh HK)
    have h1:=uh G2 (by unfold decodeF at hn; exact ((no_iff _ _).1 hn).2)
    rw [h1,(decode_eq (uh HIB) (by omega)).2 hn])
   refine bodyPost_ret ?_ rfl ⟨⟨xops,xnm,xnodes,xqn,xcn,xinits,xqi,xci,xinp,xqp,xcp,xout,xqo,xco⟩,rfl,hide ⟨⟨fun h => absurd rfl h,fun _ => uh GD⟩,uh MI4,uh B4⟩⟩
   simp [results,Tryz.results11,go_sem,(uh Y4).cell,moV,moCells,strV]
  ·
   have e9:EE = 8:=by rw [← uh HEE]; unfold decC; rw [if_neg (by omega),uh HK]; rfl
   subst e9
   go_wp2_with fail
   have Y4:=hide ((uh Y3).set6 (.int .i64 0) (.string { data:=#[] }) (.slice none 0 0) (.slice none 0 0) (.slice none 0 0) (.slice none 0 0))
   have B4:=hide (bset6 (uh B3) (Nat.le_refl w.heap.size) (.int .i64 0) (.string { data:=#[] }) (.slice none 0 0) (.slice none 0 0) (.slice none 0 0) (.slice none 0 0))
   refine bodyPost_ret ?_ rfl ⟨noMoA,rfl,hide ⟨⟨fun _ => rfl,fun h => absurd h (by decide)⟩,noMo_in _ _,uh B4⟩⟩
   simp [results,Tryz.results11,go_sem,(uh Y4).cell,moV,moCells,strV,noMoA,str_nil7]
  ·
   have e9:EE = 7:=by rw [← uh HEE]; unfold decC; rw [if_neg (by omega),uh HK]; rfl
   subst e9
   go_wp2_with fail
   have Y4:=hide ((uh Y3).set6 (.int .i64 0) (.string { data:=#[] }) (.slice none 0 0) (.slice none 0 0) (.slice none 0 0) (.slice none 0 0))
   have B4:=hide (bset6 (uh B3) (Nat.le_refl w.heap.size) (.int .i64 0) (.string { data:=#[] }) (.slice none 0 0) (.slice none 0 0) (.slice none 0 0) (.slice none 0 0))
   refine bodyPost_ret ?_ rfl ⟨noMoA,rfl,hide ⟨⟨fun _ => rfl,fun h => absurd h (by decide)⟩,noMo_in _ _,uh B4⟩⟩
   simp [results,Tryz.results11,go_sem,(uh Y4).cell,moV,moCells,strV,noMoA,str_nil7]
  ·
   have e9:EE = 6:=by rw [← uh HEE]; unfold decC; rw [if_neg (by omega),uh HK]; rfl
   subst e9
   go_wp2_with fail
   have Y4:=hide ((uh Y3).set6 (.int .i64 0) (.string { data:=#[] }) (.slice none 0 0) (.slice none 0 0) (.slice none 0 0) (.slice none 0 0))
   have B4:=hide (bset6 (uh B3) (Nat.le_refl w.heap.size) (.int .i64 0) (.string { data:=#[] }) (.slice none 0 0) (.slice none 0 0) (.slice none 0 0) (.slice none 0 0))
   refine bodyPost_ret ?_ rfl ⟨noMoA,rfl,hide ⟨⟨fun _ => rfl,fun h => absurd h (by decide)⟩,noMo_in _ _,uh B4⟩⟩
   simp [results,Tryz.results11,go_sem,(uh Y4).cell,moV,moCells,strV,noMoA,str_nil7]
end Go.Proofs.YtaikppgoahdjbabGreat
