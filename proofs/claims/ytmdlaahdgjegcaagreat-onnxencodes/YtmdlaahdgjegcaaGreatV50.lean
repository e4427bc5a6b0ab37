import Derived.Test.YtmdlaahdgjegcaaGreatV19
import Derived.Test.YtmdlaahdgjegcaaGreatV23
import Derived.Test.YtmdlaahdgjegcaaGreatV24
import Derived.Test.YtmdlaahdgjegcaaGreatV26
import Derived.Test.YtmdlaahdgjegcaaGreatV47
import Derived.Test.YtmdlaahdgjegcaaGreatV49
set_option maxRecDepth 100000
set_option maxHeartbeats 8000000
namespace Go.Proofs.YtmdlaahdgjegcaaGreat
open Go.RowKit
set_option linter.unusedVariables false
theorem rb_mapg {α:Type} {z:α} {f:List Int → α} {ds:List (List Int)} {xs:List α} (h:Rb z (fun b x => x = f b) ds xs):xs = ds.map f:=by
 have:=rb_d (dd:=id) (F:=fun _ => no3) (C:=f) (z:=z) (ds:=ds) (xs:=xs) ⟨h.1,fun i hi _ => h.2 i hi⟩ (fun _ _ => rfl)
 rwa [List.map_id] at this
theorem vers_map:∀ (ds:List (List Int)) (v:Int),versS v (ds.map fun b => (⟨(textP (fieldsP b).1 1).1,(wholeP (fieldsP b).1 2).1⟩:SeA)) = versF v ds
 | [],v => rfl
 | b :: r,v => by
   rw [List.map_cons,versS,versF,vers_map r]
theorem model_graph {l:List Fld} (h:modelCF l = no3):graphCF (inL l 7) = no3:=by
 unfold modelCF at h
 rw [no_iff] at h
 exact h.2
theorem creadModel_any (g:Nat) (q:Option Addr) (d:Nat) (L:List FA) (w:World) (hw:WstE g w) (h:MsIn g w q d L) :
  Calls Tryz.prog 26 #[msV q L.length d g] w fun e w' => Made (fun w x => MoIn 0 w x) (fun x => moV x) g (fun x => modelCF (L.map FA.f) = no3 → x.d = graphC (inL (L.map FA.f) 7)) (modelCF (L.map FA.f)) w e w':=by
 obtain ⟨l,hl⟩:∃ l,L.map FA.f = l:=⟨_,rfl⟩
 have B0:=hide (al2p w (Obj.cells #[.slice q L.length d,.pointer (some ⟨g,0,none⟩)] 58) (Obj.cells #[.int .i64 0,.string { data:=#[] },.slice none 0 0,.slice none 0 0,.slice none 0 0,.slice none 0 0] 29))
 have X0:=hide (Box.alloc (Box.new w #[.slice q L.length d,.pointer (some ⟨g,0,none⟩)] 58) (Obj.cells #[.int .i64 0,.string { data:=#[] },.slice none 0 0,.slice none 0 0,.slice none 0 0,.slice none 0 0] 29))
 have Y0:Hid (Box ((w.alloc (Obj.cells #[.slice q L.length d,.pointer (some ⟨g,0,none⟩)] 58)).alloc (Obj.cells #[.int .i64 0,.string { data:=#[] },.slice none 0 0,.slice none 0 0,.slice none 0 0,.slice none 0 0] 29)) (w.heap.size + 1) #[.int .i64 0,.string { data:=#[] },.slice none 0 0,.slice none 0 0,.slice none 0 0,.slice none 0 0] 29):=hide (by have h:=Box.new (w.alloc (Obj.cells #[.slice q L.length d,.pointer (some ⟨g,0,none⟩)] 58)) #[.int .i64 0,.string { data:=#[] },.slice none 0 0,.slice none 0 0,.slice none 0 0,.slice none 0 0] 29; rw [alloc_size6] at h; exact h)
 have HW:=hide hw
 have gl:=hw.lt
 have HM:=hide h
 have n1:w.heap.size ≠ g:=by omega
 clear hw h
 rw [hl]
 have HL0:=hide hl
 unfold msV
 have R0:=hide (RE.below (uh B0) (uh HW))
 have N0:=hide (Rn.refl ((uh HW).below (uh B0)))
 have HM0:=hide ((uh HM).stay (uh R0).1)
 have x0:=(uh X0).cell
 go_enter Tryz.func26,Tryz.ntmps26
 go_wp2_with fail
 generalize (w.alloc (Obj.cells #[.slice q L.length d,.pointer (some ⟨g,0,none⟩)] 58)).alloc (Obj.cells #[.int .i64 0,.string { data:=#[] },.slice none 0 0,.slice none 0 0,.slice none 0 0,.slice none 0 0] 29) = W0 at B0 X0 Y0 R0 N0 HM0 x0 ⊢
 have l0:=(uh Y0).lt
 have gl0:g < W0.heap.size:=by omega
 have C1:=hide (fun v (hn:Rx g W0 v) => cnum_any g q d L 1 v hn.wst (hn.ms (uh HM0)))
 have CI:=hide (fun v (hn:Rx g W0 v) => cinnerm_any g q d L 7 v hn.wst (hn.ms (uh HM0)))
 have CB:=hide (fun is v (hn:Rx g W0 v) => cnote_bad g q L.length d is v hn.wst)
 rw [hl] at C1
 clear hl
 obtain ⟨KV,hKV⟩:∃ N,wholeP l 1 = N:=⟨_,rfl⟩
 have HKV:=hide hKV
 rw [hKV] at C1
 clear hKV
 unfold msV at C1 CI CB
 refine (uh C1 _ (uh N0).x).mono ?_
 rintro e w1 ⟨rfl,hr⟩
 have N1:=hide ((uh N0).re hr)
 have XX:=hide ((uh N1).box (uh X0) n1)
 have x1:=(uh XX).cell
 have HM1:=hide ((uh HM0).stay (uh N1).1.1)
 have M0:=hide (Rn.refl (uh N1).2).dr
 have CS:=hide (fun v (hn:Rx g w1 v) => cmsgsSet_any g q d L 8 (fun b (x:SeA) => x = ⟨(textP (fieldsP b).1 1).1,(wholeP (fieldsP b).1 2).1⟩) (fun b => setCF (fieldsP b).1) v hn.wst (hn.ms (uh HM1)) (fun u su wu b q' d' L' hm' hl' => (by
  have h1:=creadSet_any g q' d' L' u wu hm'
  rw [hl'] at h1
  exact h1)))
 have CO1:=hide (fun is v (hn:Rx g w1 v) => cnote_odd g q L.length d is v hn.wst)
 unfold msV at CS CO1
 clear hr
 go_wp2_with fail
 go_region_held3 (fun v => (∀ j,v.cell? ⟨w.heap.size,j,none⟩ = (#[.slice q L.length d,.pointer (some ⟨g,0,none⟩)]:Array Value)[j]?)) (first | with_reducible exact Rn.cells1 (uh M3) (uh XX) n1 | with_reducible exact Rn.cells1 (uh M2) (uh XX) n1 | with_reducible exact Rn.cells1 (uh M1) (uh XX) n1 | with_reducible exact Rn.cells1 (uh M0) (uh XX) n1)
  (first
   | (go_at_call 58; (have nx:=M2; clear nx; refine (uh CO1 _ _ ?_).mono ?_; (focus (with_reducible exact (uh M2).x)); rintro e w4 ⟨rfl,hr⟩; have M3:=hide ((uh M2).re hr); clear hr))
   | (go_at_call 59; (have nx:=M1; clear nx; refine (cknown_any b2 xs2 _ (uh MR2) (uh I2).1 (by have:=(uh I2).2; omega)).mono ?_; rintro e w3 ⟨rfl,hb⟩; have M2:=hide ((uh M1).bel hb); clear hb))
   | (go_at_call 60; (refine (uh CS _ ?_).mono ?_; (focus (with_reducible exact (uh M0).x)); rintro e w2 ⟨b2,xs2,rfl,hq⟩; obtain ⟨g1,g2,g3,g4,hr⟩:=uh hq; have M1:=hide ((uh M0).re hr); have MR2:=hide g3; have I2:=hide (And.intro g2 (g1.small (uh HM1))); have G2:=hide (rb_mapg g1); clear hq g1 g2 g3 g4 hr)))
 have N4:=hide ((uh N1).1.thenN (uh M3))
 have x4:=(uh N4).cells1 (uh X0) n1
 clear XX x1 MR2 I2
 go_wp2_with fail
 refine (uh CI _ (uh N4).x).mono ?_
 rintro e w5 ⟨q5,d5,L5,rfl,hq⟩
 obtain ⟨h1,h2,hr⟩:=uh hq
 rw [uh HL0] at h1 hr
 have HL5:Hid (L5.map FA.f = inL l 7):=hide h1
 have HM5:=hide h2
 have N5:=hide ((uh N4).re hr)
 have xa5:=fun o => ((uh N5).al o).cells1 (uh X0) n1
 have l5:=(uh N5).size
 clear hq h1 h2 hr x4
 rw [uh HL0]
 obtain ⟨I7,hI7⟩:∃ I,(messageP l 7).1.2 = I:=⟨_,rfl⟩
 have HI7:Hid (inIs l 7 = I7):=hide hI7
 rw [hI7]
 clear hI7
 go_wp2_with fail
 refine (uh CB _ _ ((uh N5).al (Obj.cells #[.slice q5 L5.length d5,.pointer (some ⟨g,0,none⟩)] 58)).x).mono ?_
 rintro e w6 ⟨rfl,hr⟩
 have N6:=hide (((uh N5).al (Obj.cells #[.slice q5 L5.length d5,.pointer (some ⟨g,0,none⟩)] 58)).re hr)
 have MB6:=hide (hr.1.box (Box.new w5 #[.slice q5 L5.length d5,.pointer (some ⟨g,0,none⟩)] 58) (by omega))
 have HM6:=hide (((uh HM5).stay (Stay.below (al1p w5 (Obj.cells #[.slice q5 L5.length d5,.pointer (some ⟨g,0,none⟩)] 58)) (by omega))).stay hr.1)
 have m6:=(uh MB6).cell
 clear hr xa5
 go_wp2_with fail
 refine (creadGraph_any g q5 d5 L5 _ (uh N6).2 (uh HM6)).mono ?_
 rintro e w7 ⟨x,rfl,hq⟩
 obtain ⟨h1,h2,hr⟩:=uh hq
 rw [uh HL5] at h1 hr
 have G7:=hide h1
 have MI7:=hide h2
 have N7:=hide ((uh R0).thenN ((uh N6).re hr))
 have Y7:=hide (hr.1.box ((uh N6).box (uh Y0) (by omega)) (by omega))
 have y7:=(uh Y7).cell
 have z7:=(uh Y7).frozen
 clear hq h1 h2 hr m6
 obtain ⟨xops,xnm,xnodes,xqn,xcn,xinits,xqi,xci,xinp,xqp,xcp,xout,xqo,xco⟩:=x
 simp only [moV,moCells,strV]
 go_wp2_with fail
 have Y8:=hide ((uh Y7).set6 (.int .i64 xops) (.string (strOfNums xnm)) (.slice xqn xnodes.length xcn) (.slice xqi xinits.length xci) (.slice xqp xinp.length xcp) (.slice xqo xout.length xco))
 have MI8:=hide ((uh MI7).kept (Kept.set6 (uh Y7) (by decide) (by omega) (.int .i64 xops) (.string (strOfNums xnm)) (.slice xqn xnodes.length xcn) (.slice xqi xinits.length xci) (.slice xqp xinp.length xcp) (.slice xqo xout.length xco)))
 have R8:=hide ((uh N7).set6 (b:=w.heap.size + 1) (by omega) gl (.int .i64 xops) (.string (strOfNums xnm)) (.slice xqn xnodes.length xcn) (.slice xqi xinits.length xci) (.slice xqp xinp.length xcp) (.slice xqo xout.length xco))
 refine bodyPost_ret ?_ rfl ⟨⟨xops,xnm,xnodes,xqn,xcn,xinits,xqi,xci,xinp,xqp,xcp,xout,xqo,xco⟩,rfl,hide ⟨fun hc => uh G7 (model_graph hc),uh MI8,(uh R8).1.eq (congrArg lev ?_)⟩⟩
 ·simp [results,Tryz.results26,go_sem,(uh Y8).cell,moV,moCells,strV]
 ·unfold modelCF msF inF
  rw [uh HKV,uh HI7,← vers_map,← uh HL0,← uh G2]
  simp only [f3_assoc,no_f3]
def DecP (E:Int) (b:List Int) (x:MoA):Prop:=(E ≠ 0 → x = noMoA) ∧ (E = 0 → x.d = (decodeV b).1)
def decC (b:List Int):Int:=if 4194304 < b.length then 8 else if lev (decodeF b) = 3 then 6 else if lev (decodeF b) = 2 then 7 else if lev (decodeF b) = 1 then 8 else 0
theorem lev_zero {f:F3} (h:lev f = 0):f = no3:=by
 obtain ⟨a,b,c⟩:=f
 cases a <;> cases b <;> cases c <;> first | rfl | (exact absurd h (by decide))
theorem noMo_in (B:Nat) (w:World):MoIn B w noMoA:=⟨rfl,fun c hc => (by cases hc),⟨fun x hx => (by cases hx),Rc.nil w,Tag.nil _ _ _ _⟩,⟨fun x hx => (by cases hx),Rc.nil w,Tag.nil _ _ _ _⟩,⟨fun x hx => (by cases hx),Rc.nil w,Tag.nil _ _ _ _⟩,fun x hx => (by cases hx),Rc.nil w,Tag.nil _ _ _ _⟩
theorem cdecode_any (p:Option Addr) (c:Nat) (b:List Int) (w:World) (hb:Ints .u8 w p c b) :
  Calls Tryz.prog 11 #[.slice p b.length c] w fun e w' => ∃ x:MoA,e = .returned (.tuple #[moV x,.int .i64 (decC b)]) ∧ Hid (DecP (decC b) b x ∧ MoIn 0 w' x ∧ Below w.heap.size w w'):=by
 have HI:=hide hb
 have HIB:Hid (isB b):=hide (wf_isB hb.2.2.1)
 have nl:=hb.len
 clear hb
 by_cases hl:4194304 < b.length
 ·have hi:(4194304:Int) < (b.length:Int):=by omega
  rw [show decC b = 8 from by unfold decC; rw [if_pos hl]]
  have Y0:=hide (Box.new w #[.int .i64 0,.string { data:=#[] },.slice none 0 0,.slice none 0 0,.slice none 0 0,.slice none 0 0] 29)
  have B0:=hide (al1p w (Obj.cells #[.int .i64 0,.string { data:=#[] },.slice none 0 0,.slice none 0 0,.slice none 0 0,.slice none 0 0] 29))
  clear hl
  go_enter Tryz.func11,Tryz.ntmps11
  go_wp2_with fail
  refine bodyPost_ret ?_ rfl ⟨noMoA,rfl,hide ⟨⟨fun _ => rfl,fun h => absurd h (by decide)⟩,noMo_in _ _,uh B0⟩⟩
  simp [results,Tryz.results11,go_sem,(uh Y0).cell,moV,moCells,strV,noMoA,str_nil7]
 ·have hi:¬ (4194304:Int) < (b.length:Int):=by omega
  obtain ⟨EE,hEE⟩:∃ E,decC b = E:=⟨_,rfl⟩
  have HEE:=hide hEE
  rw [hEE]
  clear hEE
  have B0:=hide (al2p w (Obj.cells #[.int .i64 0,.string { data:=#[] },.slice none 0 0,.slice none 0 0,.slice none 0 0,.slice none 0 0] 29) (Obj.cells #[.int .i64 0] 53))
  have Y0:=hide ((Box.new w #[.int .i64 0,.string { data:=#[] },.slice none 0 0,.slice none 0 0,.slice none 0 0,.slice none 0 0] 29).alloc (Obj.cells #[.int .i64 0] 53))
  have WB0:Hid (Wst (w.heap.size + 1) ((w.alloc (Obj.cells #[.int .i64 0,.string { data:=#[] },.slice none 0 0,.slice none 0 0,.slice none 0 0,.slice none 0 0] 29)).alloc (Obj.cells #[.int .i64 0] 53)) 0):=hide (by have h:=Box.new (w.alloc (Obj.cells #[.int .i64 0,.string { data:=#[] },.slice none 0 0,.slice none 0 0,.slice none 0 0,.slice none 0 0] 29)) #[.int .i64 0] 53; rw [alloc_size6] at h; exact h)
  have C1:=hide (copened_any (w.heap.size + 1) none 0 0 p c b ((w.alloc (Obj.cells #[.int .i64 0,.string { data:=#[] },.slice none 0 0,.slice none 0 0,.slice none 0 0,.slice none 0 0] 29)).alloc (Obj.cells #[.int .i64 0] 53)) ⟨0,by omega,by omega,uh WB0⟩ ((uh HI).below (uh B0)) (by omega))
  unfold msV at C1
  go_enter Tryz.func11,Tryz.ntmps11
  go_wp2_with fail
  refine (uh C1).mono ?_
  rintro e w1 ⟨q1,d1,L1,rfl,hq⟩
  obtain ⟨h1,h2,hr,_⟩:=uh hq
  have HW0:Hid (WstE (w.heap.size + 1) ((w.alloc (Obj.cells #[.int .i64 0,.string { data:=#[] },.slice none 0 0,.slice none 0 0,.slice none 0 0,.slice none 0 0] 29)).alloc (Obj.cells #[.int .i64 0] 53))):=hide ⟨0,by omega,by omega,uh WB0⟩
  have R1:=hide hr
  have HL1:=hide h1
  have C2:=hide (creadModel_any (w.heap.size + 1) q1 d1 L1 w1 (hr.wst (uh HW0)) h2)
  rw [h1] at C2
  unfold msV at C2
  clear hq h1 h2 hr C1
  go_wp2_with fail
  refine (uh C2).mono ?_
  rintro e w2 ⟨x,rfl,hq⟩
  obtain ⟨h1,h2,hr⟩:=uh hq
  have R2:=hide ((uh R1).trans hr)
  have G2:=hide h1
  have MI2:=hide h2
  obtain ⟨xops,xnm,xnodes,xqn,xcn,xinits,xqi,xci,xinp,xqp,xcp,xout,xqo,xco⟩:=x
  obtain ⟨K,hK⟩:∃ K,lev (decodeF b) = K:=⟨_,rfl⟩
  have HK:=hide hK
  have k0:0 ≤ K:=by rw [← hK]; exact lev_pos _
  have k3:K ≤ 3:=by rw [← hK]; exact lev_le _
  have WB2:Hid (Box w2 (w.heap.size + 1) #[.int .i64 K] 53):=hide (by
   have h:=(uh R2).2 0 (by omega) (uh WB0)
   have e:max 0 (lev (f3 (fieldsP b).2 (modelCF (fieldsP b).1))) = K:=by
    have:lev (f3 (fieldsP b).2 (modelCF (fieldsP b).1)) = K:=hK
    rw [this]; omega
   rw [e] at h
   exact h)
  have Y2:=hide ((uh R2).1.box (uh Y0) (by omega))
  have B2:=hide (bl_tr7 (uh B0) (bl_mono7 (uh R2).1.1 (show w.heap.size ≤ (w.heap.size + 1) by omega)))
  have l2:=(uh WB2).lt
  have WB3:=hide ((uh WB2).alloc (Obj.cells #[.int .i64 xops,.string (strOfNums xnm),.slice xqn xnodes.length xcn,.slice xqi xinits.length xci,.slice xqp xinp.length xcp,.slice xqo xout.length xco] 29))
  have Y3:=hide ((uh Y2).alloc (Obj.cells #[.int .i64 xops,.string (strOfNums xnm),.slice xqn xnodes.length xcn,.slice xqi xinits.length xci,.slice xqp xinp.length xcp,.slice xqo xout.length xco] 29))
  have B3:=hide (bl_tr7 (uh B2) (bl_mono7 (al1p w2 (Obj.cells #[.int .i64 xops,.string (strOfNums xnm),.slice xqn xnodes.length xcn,.slice xqi xinits.length xci,.slice xqp xinp.length xcp,.slice xqo xout.length xco] 29)) (by omega)))
  have MI3:=hide ((uh MI2).below (al1p w2 (Obj.cells #[.int .i64 xops,.string (strOfNums xnm),.slice xqn xnodes.length xcn,.slice xqi xinits.length xci,.slice xqp xinp.length xcp,.slice xqo xout.length xco] 29)))
  have w3:=(uh WB3).cell
  have y3:=(uh Y3).cell
  have z3:=(uh Y3).frozen
  clear hq h1 h2 hr hK C2 R1 R2 B0 B2 WB0 HW0
  simp only [moV,moCells,strV]
  have hcases:K = 0 ∨ K = 1 ∨ K = 2 ∨ K = 3:=by omega
  clear k0 k3
  rcases hcases with rfl | rfl | rfl | rfl
  ·
   have e9:EE = 0:=by rw [← uh HEE]; unfold decC; rw [if_neg (by omega),uh HK]; rfl
   subst e9
   go_wp2_with fail
   have Y4:=hide ((uh Y3).set6 (.int .i64 xops) (.string (strOfNums xnm)) (.slice xqn xnodes.length xcn) (.slice xqi xinits.length xci) (.slice xqp xinp.length xcp) (.slice xqo xout.length xco))
   have B4:=hide (bset6 (uh B3) (Nat.le_refl w.heap.size) (.int .i64 xops) (.string (strOfNums xnm)) (.slice xqn xnodes.length xcn) (.slice xqi xinits.length xci) (.slice xqp xinp.length xcp) (.slice xqo xout.length xco))
   have MI4:=hide ((uh MI3).kept (Kept.set6 (uh Y3) (by decide) (by omega) (.int .i64 xops) (.string (strOfNums xnm)) (.slice xqn xnodes.length xcn) (.slice xqi xinits.length xci) (.slice xqp xinp.length xcp) (.slice xqo xout.length xco)))
   have GD:Hid (MoA.d ⟨xops,xnm,xnodes,xqn,xcn,xinits,xqi,xci,xinp,xqp,xcp,xout,xqo,xco⟩ = (decodeV b).1):=hide (by
    have hn:decodeF b = no3:=lev_zero (uh HK)
    have h1:=uh G2 (by unfold decodeF at hn; exact ((no_iff _ _).1 hn).2)
    rw [h1,(decode_eq (uh HIB) (by omega)).2 hn])
   refine bodyPost_ret ?_ rfl ⟨⟨xops,xnm,xnodes,xqn,xcn,xinits,xqi,xci,xinp,xqp,xcp,xout,xqo,xco⟩,rfl,hide ⟨⟨fun h => absurd rfl h,fun _ => uh GD⟩,uh MI4,uh B4⟩⟩
   simp [results,Tryz.results11,go_sem,(uh Y4).cell,moV,moCells,strV]
  ·
   have e9:EE = 8:=by rw [← uh HEE]; unfold decC; rw [if_neg (by omega),uh HK]; rfl
   subst e9
   go_wp2_with fail
   have Y4:=hide ((uh Y3).set6 (.int .i64 0) (.string { data:=#[] }) (.slice none 0 0) (.slice none 0 0) (.slice none 0 0) (.slice none 0 0))
   have B4:=hide (bset6 (uh B3) (Nat.le_refl w.heap.size) (.int .i64 0) (.string { data:=#[] }) (.slice none 0 0) (.slice none 0 0) (.slice none 0 0) (.slice none 0 0))
   refine bodyPost_ret ?_ rfl ⟨noMoA,rfl,hide ⟨⟨fun _ => rfl,fun h => absurd h (by decide)⟩,noMo_in _ _,uh B4⟩⟩
   simp [results,Tryz.results11,go_sem,(uh Y4).cell,moV,moCells,strV,noMoA,str_nil7]
  ·
   have e9:EE = 7:=by rw [← uh HEE]; unfold decC; rw [if_neg (by omega),uh HK]; rfl
   subst e9
   go_wp2_with fail
   have Y4:=hide ((uh Y3).set6 (.int .i64 0) (.string { data:=#[] }) (.slice none 0 0) (.slice none 0 0) (.slice none 0 0) (.slice none 0 0))
   have B4:=hide (bset6 (uh B3) (Nat.le_refl w.heap.size) (.int .i64 0) (.string { data:=#[] }) (.slice none 0 0) (.slice none 0 0) (.slice none 0 0) (.slice none 0 0))
   refine bodyPost_ret ?_ rfl ⟨noMoA,rfl,hide ⟨⟨fun _ => rfl,fun h => absurd h (by decide)⟩,noMo_in _ _,uh B4⟩⟩
   simp [results,Tryz.results11,go_sem,(uh Y4).cell,moV,moCells,strV,noMoA,str_nil7]
  ·
   have e9:EE = 6:=by rw [← uh HEE]; unfold decC; rw [if_neg (by omega),uh HK]; rfl
   subst e9
   go_wp2_with fail
   have Y4:=hide ((uh Y3).set6 (.int .i64 0) (.string { data:=#[] }) (.slice none 0 0) (.slice none 0 0) (.slice none 0 0) (.slice none 0 0))
   have B4:=hide (bset6 (uh B3) (Nat.le_refl w.heap.size) (.int .i64 0) (.string { data:=#[] }) (.slice none 0 0) (.slice none 0 0) (.slice none 0 0) (.slice none 0 0))
   refine bodyPost_ret ?_ rfl ⟨noMoA,rfl,hide ⟨⟨fun _ => rfl,fun h => absurd h (by decide)⟩,noMo_in _ _,uh B4⟩⟩
   simp [results,Tryz.results11,go_sem,(uh Y4).cell,moV,moCells,strV,noMoA,str_nil7]
def rowB {α:Type} (num:Int) (g:α → List Int) (l:List α):List Int:=msgB (l.map fun x => blkF num (g x))
theorem rowB_nil {α:Type} (num:Int) (g:α → List Int):rowB num g [] = []:=rfl
theorem rowB_next {α:Type} (num:Int) (g:α → List Int) (z:α) {l:List α} {n:Nat} (h:n < l.length):rowB num g (l.take (n + 1)) = rowB num g (l.take n) ++ fieldB (blkF num (g (l.getD n z))):=by
 unfold rowB
 rw [List.take_add_one,List.getD_eq_getElem?_getD,List.getElem?_eq_getElem h,List.map_append,msg_app]
 simp [msgB]
theorem rowB_len {α:Type} (num:Int) (g:α → List Int) (M:Nat):∀ l:List α,(∀ x ∈ l,(g x).length ≤ M) → (rowB num g l).length ≤ l.length * (20 + M)
 | [],_ => by simp [rowB,msgB]
 | x :: r,h => by
   have e:rowB num g (x :: r) = fieldB (blkF num (g x)) ++ rowB num g r:=by
    unfold rowB
    rw [List.map_cons,show blkF num (g x) :: List.map (fun x => blkF num (g x)) r = [blkF num (g x)] ++ List.map (fun x => blkF num (g x)) r from rfl,msg_app,msg_one]
   rw [e,List.length_append,List.length_cons,Nat.succ_mul]
   have a1:=fblk_len num (g x)
   have a2:=h x (by simp)
   have a3:=rowB_len num g M r (fun y hy => h y (by simp [hy]))
   omega
theorem rowB_take {α:Type} (num:Int) (g:α → List Int) (M:Nat) (l:List α) (h:∀ x ∈ l,(g x).length ≤ M) (n:Nat) (hn:n ≤ l.length):(rowB num g (l.take n)).length ≤ l.length * (20 + M):=by
 have a:=rowB_len num g M (l.take n) (fun x hx => h x (List.mem_of_mem_take hx))
 rw [List.length_take] at a
 exact Nat.le_trans a (Nat.mul_le_mul_right _ (by omega))
theorem tensn_len (nm:Str) (T:Ten) (hn:nm.length ≤ 100000) (h:TenWr T):(msgB (tensF nm T)).length ≤ 160000000:=by
 obtain ⟨h1,h2,h3,h4⟩:=h
 have e:msgB (tensF nm T) = ((msgB (packF 1 T.2.1) ++ fieldB (numF 2 (u64w T.1))) ++ msgB (wordF 8 nm)) ++ fieldB (blkF 9 (rawB T)):=by
  unfold tensF; rw [msg_app,msg_app,msg_app,msg_one,msg_one]
 rw [e,List.length_append,List.length_append,List.length_append]
 have a1:=pack_len 1 T.2.1
 have a2:=fnum_len 2 (u64w T.1)
 have a3:=word_len 8 nm
 have a4:=fblk_len 9 (rawB T)
 rw [raw_parts,List.length_append,List.length_append,fx_flat,fx_flat,List.length_map] at a4
 rw [raw_parts]
 omega
theorem attr_len (a:AtA) (h:AtSm a):(msgB (attrF a.d)).length ≤ 200000000:=by
 obtain ⟨h1,h2,h3,h4,h5⟩:=h
 unfold attrF AtA.d
 simp only
 rw [msg_app,msg_app,List.length_append,List.length_append,msg_one]
 have a1:=word_len 1 a.nm
 have a2:=fnum_len 20 (u64w a.kd)
 have t1:=tens_len a.T h5.1 h5.2.1 h5.2.2.1 h5.2.2.2
 have a3:=fnum_len 3 (u64w a.i)
 have a4:=fblk_len 4 a.s
 have a5:=fblk_len 5 (msgB (tensF [] a.T))
 have a6:=fblk_len 7 (a.fl.flatMap fun y => fxL y 4)
 have a6':=fx_flat id 4 a.fl
 simp only [id] at a6'
 have a7:=pack_len 8 a.is
 have a8:(fieldB ((2:Int),(5:Int),a.f,[])).length ≤ 100:=by
  have e:fieldB ((2:Int),(5:Int),a.f,[]) = varV (2 * 8 + 5) ++ fxL a.f 4:=rfl
  rw [e,List.length_append,fxL_length]
  have:=(varV_len (2 * 8 + 5)).2
  omega
 have key:(msgB (if a.kd = 1 then [((2:Int),(5:Int),a.f,[])] else if a.kd = 2 then [numF 3 (u64w a.i)] else if a.kd = 3 then [blkF 4 a.s] else if a.kd = 4 then [blkF 5 (msgB (tensF [] a.T))] else if a.kd = 6 then (if a.fl.length = 0 then [] else [blkF 7 (a.fl.flatMap fun y => fxL y 4)]) else if a.kd = 7 then packF 8 a.is else [])).length ≤ 160000000:=by
  split
  ·rw [msg_one]; omega
  ·split
   ·rw [msg_one]; omega
   ·split
    ·rw [msg_one]; omega
    ·split
     ·rw [msg_one]; omega
     ·split
      ·split
       ·simp [msgB]
       ·rw [msg_one]; omega
      ·split
       ·omega
       ·simp [msgB]
 omega
def NoCt (a:NoA):Prop:=a.ins.length ≤ 64 ∧ a.outs.length ≤ 64 ∧ a.at'.length ≤ 64
theorem nodeB_eq (a:NoA):msgB (nodeF a.d) = (((rowB 1 id a.ins ++ rowB 2 id a.outs) ++ msgB (wordF 3 a.nm)) ++ fieldB (blkF 4 a.op)) ++ rowB 5 (fun x => msgB (attrF x.d)) a.at':=by
 unfold nodeF NoA.d rowB
 simp only
 rw [msg_app,msg_app,msg_app,msg_app,msg_one,List.map_map]
 rfl
theorem node_len (a:NoA) (h:NoSm a) (hc:NoCt a):(msgB (nodeF a.d)).length ≤ 13000000000:=by
 obtain ⟨_,h1,h2,h3,h4,h5⟩:=h
 obtain ⟨c1,c2,c3⟩:=hc
 rw [nodeB_eq,List.length_append,List.length_append,List.length_append,List.length_append]
 have a1:=rowB_len 1 id 100000 a.ins h3
 have a2:=rowB_len 2 id 100000 a.outs h4
 have a3:=rowB_len 5 (fun x:AtA => msgB (attrF x.d)) 200000000 a.at' (fun x hx => attr_len x (h5 x hx).1)
 have a4:=word_len 3 a.nm
 have a5:=fblk_len 4 a.op
 omega
theorem kindB_or {k:Int} (h:kindB k = true):k = 1 ∨ k = 2 ∨ k = 3 ∨ k = 4 ∨ k = 6 ∨ k = 7:=by
 unfold kindB at h
 simp only [Bool.or_eq_true,beq_iff_eq] at h
 omega
theorem rnodeOf_any (a:NoA) {B:Nat} (w:World) (h:NoIn B w a) (hm:NoSm a) (hc:NoCt a) :
  Calls Tryz.prog 37 #[.agg (noCells a).toArray] w fun e w' => ∃ v,e = .returned v ∧ OwnG 5 (Value.int .u8) w w' v (msgB (nodeF a.d)):=by
 obtain ⟨i1,hi1,y1,z1,b1⟩:=info_parts Tryz.infoU8
 rw [nodeB_eq]
 obtain ⟨op,nm,ins,qi,ci,outs,qo,co,atl,qa,ca⟩:=a
 obtain ⟨m0,m1,m2,m3,m4,m5⟩:=hm
 obtain ⟨k1,k2,k3⟩:=hc
 simp only at m0 m1 m2 m3 m4 m5 k1 k2 k3 ⊢
 have T1:=hide (rowB_take 1 id 100000 ins m3)
 have T2:=hide (rowB_take 2 id 100000 outs m4)
 have T3:=hide (rowB_take 5 (fun x:AtA => msgB (attrF x.d)) 200000000 atl (fun x hx => attr_len x (m5 x hx).1))
 have r1:=rowB_len 1 id 100000 ins m3
 have r2:=rowB_len 2 id 100000 outs m4
 have r4:=word_len 3 nm
 have r5:=fblk_len 4 op
 have M3:Hid (∀ s ∈ ins,isB s ∧ s.length ≤ 100000):=hide (fun s hs => ⟨h.2.2.1.1 s hs,m3 s hs⟩)
 have M4:Hid (∀ s ∈ outs,isB s ∧ s.length ≤ 100000):=hide (fun s hs => ⟨h.2.2.2.1.1 s hs,m4 s hs⟩)
 have M5:=hide m5
 have hb1:isB op:=h.1
 have hb2:isB nm:=h.2.1
 have HW:=hide (fun v => rword_any 3 nm v hb2 (by decide) (by decide) (by omega))
 have BK:=hide (fun v => rblock_any 4 _ _ op (Go.Lib.bytesWorld v 5 (strOfNums op)) (ls_bytes (w:=v) (e:=5) hb1 (by omega)) (by decide) (by decide) (by omega))
 have hsz:(strOfNums op).size = op.length:=str_len op
 have kc:=fun (w:World) (b:ByteArray) => Go.Lib.run_convert_string_bytes (P:=Tryz.prog) w 9 22 5 b Tryz.underlying9 Tryz.underlying22 Tryz.underlying5
 have HB5:=hide (fun p c b w hh hs => rblock_any 5 p c b w hh (by decide) (by decide) hs)
 have n1:=h.2.2.1.2.1.len
 have n2:=h.2.2.2.1.2.1.len
 have n3:=h.2.2.2.2.2.1.len
 simp only at n1 n2 n3
 obtain ⟨R1,hR1⟩:∃ R,rowB 1 id ins = R:=⟨_,rfl⟩
 obtain ⟨R2,hR2⟩:∃ R,R1 ++ rowB 2 id outs = R:=⟨_,rfl⟩
 have l2:R2.length = R1.length + (rowB 2 id outs).length:=by rw [← hR2,List.length_append]
 rw [hR1,hR2]
 obtain ⟨VW,hVW⟩:∃ R,msgB (wordF 3 nm) = R:=⟨_,rfl⟩
 obtain ⟨VB,hVB⟩:∃ R,fieldB (blkF 4 op) = R:=⟨_,rfl⟩
 obtain ⟨R3,hR3⟩:∃ R,R2 ++ VW = R:=⟨_,rfl⟩
 have l3:R3.length = R2.length + VW.length:=by rw [← hR3,List.length_append]
 obtain ⟨R4,hR4⟩:∃ R,R3 ++ VB = R:=⟨_,rfl⟩
 have l4:R4.length = R3.length + VB.length:=by rw [← hR4,List.length_append]
 rw [hVW,hVB,hR3,hR4]
 rw [hVW] at r4 HW
 rw [hVB] at r5 BK
 rw [hR1] at r1
 obtain ⟨R5,hR5⟩:∃ R,R4 ++ rowB 5 (fun x:AtA => msgB (attrF x.d)) atl = R:=⟨_,rfl⟩
 rw [hR5]
 have l2':R2.length ≤ 20000000:=by omega
 have l3':R3.length ≤ 21000000:=by omega
 have l4':R4.length ≤ 22000000:=by omega
 have r1':R1.length ≤ 10000000:=by omega
 have H1:=hide hR1
 have H2:=hide hR2
 have H3:=hide hR3
 have H4:=hide hR4
 have H5:=hide hR5
 clear hR1 hR2 hR3 hR4 hR5 hVW hVB l2 l3 l4 r1 r2 m3 m4 m5
 show Calls Tryz.prog _ #[.agg #[.string (strOfNums op),.string (strOfNums nm),.slice qi ins.length ci,.slice qo outs.length co,.slice qa atl.length ca]] w _
 have HA:=hide (fun v (hv:Below w.heap.size w v) => h.kept (TS:=modelTS) (fun t ht => by simp only [nodeTS,List.mem_cons,List.not_mem_nil,or_false] at ht; rcases ht with rfl | rfl | rfl | rfl | rfl | rfl <;> simp [modelTS]) (Kept.below hv))
 clear h
 unfold strV at HW
 go_enter Tryz.func37,Tryz.ntmps37
 go_wp2_with fail
 obtain ⟨W,hW⟩:∃ W,(w.alloc (Obj.cells #[.string (strOfNums op),.string (strOfNums nm),.slice qi ins.length ci,.slice qo outs.length co,.slice qa atl.length ca] 75)) = W:=⟨_,rfl⟩
 have BX:Hid (Box W w.heap.size #[.string (strOfNums op),.string (strOfNums nm),.slice qi ins.length ci,.slice qo outs.length co,.slice qa atl.length ca] 75):=hide (by rw [← hW]; exact Box.new w _ _)
 have BW:Hid (Below w.heap.size w W):=hide (by rw [← hW]; exact al1p _ _)
 rw [hW]
 clear hW
 go_loopw [3,4] (fun v iv wr => ∃ n:Nat,iv = .int .i64 n ∧ n ≤ ins.length ∧ Hid (OwnG 5 (Value.int .u8) W wr v (rowB 1 id (ins.take n)))) (fun _ iv _ => ins.length - (intOf iv).toNat)
 case atStart => exact ⟨0,rfl,by omega,hide (OwnG.nil _ _ _ (Below.refl _ _))⟩
 case round =>
  obtain ⟨n,rfl,hn,O⟩:=hrel
  have x1:=((uh BX).below (uh O).2).cell
  by_cases hlt:n < ins.length
  ·have hi:(n:Int) < (ins.length:Int):=by omega
   have hLs:=(uh HA _ (bl_tr (uh BW) (uh O).2)).2.2.1.2.1
   obtain ⟨b,o,rfl,hb,hx9⟩:=hLs.lies (show 0 < ins.length by omega); clear hx9
   have c1:=rowS hLs hlt
   have HT:=hide (rowB_next 1 id default hlt)
   have tl:=uh T1 n hn
   obtain ⟨sb,sl⟩:=uh M3 _ (getD_mem7 (z:=default) hlt)
   generalize ins.getD n default = s at c1 HT sb sl
   have VX:=hide (fun v => rblock_any 1 _ _ s (Go.Lib.bytesWorld v 5 (strOfNums s)) (ls_bytes (w:=v) (e:=5) sb (by omega)) (by decide) (by decide) (by omega))
   have ssz:(strOfNums s).size = s.length:=str_len s
   have lb:=fblk_len 1 s
   simp only [id] at HT
   generalize fieldB (blkF 1 s) = V at HT VX lb
   obtain ⟨P,hP⟩:∃ P,rowB 1 id (ins.take n) = P:=⟨_,rfl⟩
   rw [hP] at O HT tl
   clear hP hLs
   go_wp2_with fail
   refine (uh VX _).mono ?_
   rintro e w1 ⟨v1,rfl,hO⟩
   obtain ⟨q1,d1,rfl,hl1,_⟩:=hO.form
   have L1:=hide hl1
   have O1:=hide ((uh O).below (bl_tr (below_bytes _ _ _) hO.2))
   clear hO hl1 VX
   go_wp2_with (at_builtin; (refine wpList_append_ls rfl _ _ 22 rfl W 5 i1 (.int .u8 0) 1 Tryz.underlying22 hi1 y1 z1 b1 rfl (int_one .u8) _ P rfl (uh O1) q1 d1 V rfl (uh L1) (by unfold maxLen; omega) (by omega) ?_; intro v3 w3 O3; have HO3:=hide O3; clear O3))
   go_roundw
   case rel => exact ⟨n + 1,by go_num,by omega,hide (by rw [uh HT]; exact uh HO3)⟩
   case measure => simp [intOf]; omega
  ·have hi:¬ (n:Int) < (ins.length:Int):=by omega
   have O0:Hid (OwnG 5 (Value.int .u8) W wr _ R1):=hide (by have:=uh O; rw [List.take_of_length_le (by omega),uh H1] at this; exact this)
   clear O
   go_wp2_with fail
   clear hi hlt hn x1
   go_loopw [3,5] (fun v iv wr => ∃ n:Nat,iv = .int .i64 n ∧ n ≤ outs.length ∧ Hid (OwnG 5 (Value.int .u8) W wr v (R1 ++ rowB 2 id (outs.take n)))) (fun _ iv _ => outs.length - (intOf iv).toNat)
   case atStart => exact ⟨0,rfl,by omega,hide (by rw [List.take_zero,rowB_nil,List.append_nil]; exact uh O0)⟩
   case round =>
    obtain ⟨n,rfl,hn,O⟩:=hrel
    have x1:=((uh BX).below (uh O).2).cell
    by_cases hlt:n < outs.length
    ·have hi:(n:Int) < (outs.length:Int):=by omega
     have hLs:=(uh HA _ (bl_tr (uh BW) (uh O).2)).2.2.2.1.2.1
     obtain ⟨b,o,rfl,hb,hx9⟩:=hLs.lies (show 0 < outs.length by omega); clear hx9
     have c1:=rowS hLs hlt
     have HT:=hide (congrArg (R1 ++ ·) (rowB_next 2 id default hlt))
     have tl:=uh T2 n hn
     obtain ⟨sb,sl⟩:=uh M4 _ (getD_mem7 (z:=default) hlt)
     generalize outs.getD n default = s at c1 HT sb sl
     have VX:=hide (fun v => rblock_any 2 _ _ s (Go.Lib.bytesWorld v 5 (strOfNums s)) (ls_bytes (w:=v) (e:=5) sb (by omega)) (by decide) (by decide) (by omega))
     have ssz:(strOfNums s).size = s.length:=str_len s
     have lb:=fblk_len 2 s
     simp only [id,← List.append_assoc] at HT
     generalize fieldB (blkF 2 s) = V at HT VX lb
     obtain ⟨P,hP⟩:∃ P,R1 ++ rowB 2 id (outs.take n) = P:=⟨_,rfl⟩
     have pl:P.length = R1.length + (rowB 2 id (outs.take n)).length:=by rw [← hP,List.length_append]
     have pl':P.length ≤ 20000000:=by omega
     rw [hP] at O HT
     clear hP hLs pl tl
     go_wp2_with fail
     refine (uh VX _).mono ?_
     rintro e w1 ⟨v1,rfl,hO⟩
     obtain ⟨q1,d1,rfl,hl1,_⟩:=hO.form
     have L1:=hide hl1
     have O1:=hide ((uh O).below (bl_tr (below_bytes _ _ _) hO.2))
     clear hO hl1 VX
     go_wp2_with (at_builtin; (refine wpList_append_ls rfl _ _ 22 rfl W 5 i1 (.int .u8 0) 1 Tryz.underlying22 hi1 y1 z1 b1 rfl (int_one .u8) _ P rfl (uh O1) q1 d1 V rfl (uh L1) (by unfold maxLen; omega) (by omega) ?_; intro v3 w3 O3; have HO3:=hide O3; clear O3))
     go_roundw
     case rel => exact ⟨n + 1,by go_num,by omega,hide (by rw [uh HT]; exact uh HO3)⟩
     case measure => simp [intOf]; omega
    ·have hi:¬ (n:Int) < (outs.length:Int):=by omega
     have O5:Hid (OwnG 5 (Value.int .u8) W wr _ R2):=hide (by have:=uh O; rw [List.take_of_length_le (by omega),uh H2] at this; exact this)
     clear O O0
     go_wp2_with fail
     refine (uh HW _).mono ?_
     rintro e w1 ⟨v1,rfl,hO⟩
     obtain ⟨q1,d1,rfl,hl1,_⟩:=hO.form
     have L1:=hide hl1
     have O1:=hide ((uh O5).below hO.2)
     clear hO hl1 HW O5 x1
     go_wp2_with (at_builtin; (refine wpList_append_ls rfl _ _ 22 rfl W 5 i1 (.int .u8 0) 1 Tryz.underlying22 hi1 y1 z1 b1 rfl (int_one .u8) _ R2 rfl (uh O1) q1 d1 VW rfl (uh L1) (by unfold maxLen; omega) (by omega) ?_; intro v3 w3 O3; rw [uh H3] at O3; have x3:=((uh BX).below O3.2).cell; have HO3:=hide O3; clear O3))
     refine (uh BK _).mono ?_
     rintro e w4 ⟨v4,rfl,hO⟩
     obtain ⟨q4,d4,rfl,hl4,_⟩:=hO.form
     have L4:=hide hl4
     have O4:=hide ((uh HO3).below (bl_tr (below_bytes _ _ _) hO.2))
     clear hO hl4 BK HO3 x3 O1 L1
     go_wp2_with (at_builtin; (refine wpList_append_ls rfl _ _ 22 rfl W 5 i1 (.int .u8 0) 1 Tryz.underlying22 hi1 y1 z1 b1 rfl (int_one .u8) _ R3 rfl (uh O4) q4 d4 VB rfl (uh L4) (by unfold maxLen; omega) (by omega) ?_; intro v5 w5 O5; rw [uh H4] at O5; have HO5:=hide O5; clear O5))
     clear hi hlt hn O4 L4
     go_loopw [3,6] (fun v iv wr => ∃ n:Nat,iv = .int .i64 n ∧ n ≤ atl.length ∧ Hid (OwnG 5 (Value.int .u8) W wr v (R4 ++ rowB 5 (fun x:AtA => msgB (attrF x.d)) (atl.take n)))) (fun _ iv _ => atl.length - (intOf iv).toNat)
     case atStart => exact ⟨0,rfl,by omega,hide (by rw [List.take_zero,rowB_nil,List.append_nil]; exact uh HO5)⟩
     case round =>
      obtain ⟨n,rfl,hn,O⟩:=hrel
      have x1:=((uh BX).below (uh O).2).cell
      by_cases hlt:n < atl.length
      ·have hi:(n:Int) < (atl.length:Int):=by omega
       have hLs:=(uh HA _ (bl_tr (uh BW) (uh O).2)).2.2.2.2.2.1
       obtain ⟨b,o,rfl,hb,hx9⟩:=hLs.lies (show 0 < atl.length by omega); clear hx9
       have hc:=row12 hLs hlt
       have HT:=hide (congrArg (R4 ++ ·) (rowB_next 5 (fun x:AtA => msgB (attrF x.d)) noAtA hlt))
       have tl:=uh T3 n hn
       obtain ⟨sm,sk⟩:=uh M5 _ (getD_mem7 (z:=noAtA) hlt)
       have C1:=hide (rattrOf_any (atl.getD n noAtA) (B:=B) wr ((uh HA _ (bl_tr (uh BW) (uh O).2)).2.2.2.2.1 _ (getD_mem7 hlt)) sm (kindB_or sk))
       have al:=attr_len _ sm
       simp only [← List.append_assoc] at HT
       generalize atl.getD n noAtA = x at C1 hc HT sm sk al
       clear sm sk
       generalize msgB (attrF x.d) = V at C1 HT al
       have lb:=fblk_len 5 V
       obtain ⟨xnm,xkd,xf,xi,xs,⟨ty,ds,fs,is,bs⟩,⟨pd,cd,pf,cf,pi,cii,pb,cb⟩,xfl,xqf,xcf,xis,xqi,xci⟩:=x
       have c0:=hc 0 _ rfl
       have c1:=hc 1 _ rfl
       have c2:=hc 2 _ rfl
       have c3:=hc 3 _ rfl
       have c4:=hc 4 _ rfl
       have c5:=hc 5 _ rfl
       have c6:=hc 6 _ rfl
       have c7:=hc 7 _ rfl
       have c8:=hc 8 _ rfl
       have c9:=hc 9 _ rfl
       have c10:=hc 10 _ rfl
       have c11:=hc 11 _ rfl
       simp only [strV,tenCells,atCells,List.cons_append,List.nil_append,Nat.add_zero] at C1 c0 c1 c2 c3 c4 c5 c6 c7 c8 c9 c10 c11
       obtain ⟨P,hP⟩:∃ P,R4 ++ rowB 5 (fun x:AtA => msgB (attrF x.d)) (atl.take n) = P:=⟨_,rfl⟩
       have pl:P.length = R4.length + (rowB 5 (fun x:AtA => msgB (attrF x.d)) (atl.take n)).length:=by rw [← hP,List.length_append]
       have pl':P.length ≤ 13000000000:=by omega
       rw [hP] at O HT
       clear hP hLs hc pl tl
       go_wp2_with fail
       refine (uh C1).mono ?_
       rintro e w1 ⟨v1,rfl,hO⟩
       obtain ⟨q1,d1,rfl,hl1,_⟩:=hO.form
       have L1:=hide hl1
       have O1:=hide ((uh O).below hO.2)
       clear hO hl1 C1 c0 c1 c2 c3 c4 c5 c6 c7 c8 c9 c10 c11 x1
       go_wp2_with fail
       refine (uh HB5 q1 d1 V w1 (uh L1) (by omega)).mono ?_
       rintro e w2 ⟨v2,rfl,hO⟩
       obtain ⟨q2,d2,rfl,hl2,_⟩:=hO.form
       have L2:=hide hl2
       have O2:=hide ((uh O1).below hO.2)
       clear hO hl2 O1 L1
       generalize fieldB (blkF 5 V) = VX at HT L2 lb
       go_wp2_with (at_builtin; (refine wpList_append_ls rfl _ _ 22 rfl W 5 i1 (.int .u8 0) 1 Tryz.underlying22 hi1 y1 z1 b1 rfl (int_one .u8) _ P rfl (uh O2) q2 d2 VX rfl (uh L2) (by unfold maxLen; omega) (by omega) ?_; intro v3 w3 O3; have HO3:=hide O3; clear O3))
       go_roundw
       case rel => exact ⟨n + 1,by go_num,by omega,hide (by rw [uh HT]; exact uh HO3)⟩
       case measure => simp [intOf]; omega
      ·have hi:¬ (n:Int) < (atl.length:Int):=by omega
       have O6:Hid (OwnG 5 (Value.int .u8) w wr _ R5):=hide (by have:=uh O; rw [List.take_of_length_le (by omega),uh H5] at this; exact OwnG.onto (uh BW) this)
       clear O HO5
       go_wp2_with fail
       go_ret
       exact ⟨_,rfl,uh O6⟩
end Go.Proofs.YtmdlaahdgjegcaaGreat
