import Derived.Test.YtmdlaahdgjegcaaGreatV48
set_option maxRecDepth 100000
set_option maxHeartbeats 8000000
namespace Go.Proofs.YtmdlaahdgjegcaaGreat
open Go.RowKit
set_option linter.unusedVariables false
theorem modelW_eq (ops:Int) (nm:Str) (nodes:List NodeD) (inits:List InitD) (inp out:List ValD):modelW (ops,nm,nodes,inits,inp,out) = f3 (bad3 (ops != 17)) (f3 (f3 (f3 (f3 (f3 (longW nm) (big3 (decide ((1024:Int) < (nodes.length:Int)) || decide ((1024:Int) < (inits.length:Int))))) (fAll (nodes.map nodeW))) (fAll (inits.map fun x => f3 (longW x.1) (tensW x.2)))) (valuesW inp)) (valuesW out)):=by
 unfold modelW
 simp only
 rw [fAll_append,fAll_append,fAll_append,fAll_cons,fAll_cons,fAll_cons,fAll_cons,fAll_cons]
 show f3 (f3 (f3 (f3 _ (f3 _ (f3 _ no3))) _) _) (f3 _ (f3 _ no3)) = _
 rw [f3_no,f3_no]
 simp only [f3_assoc]
 congr 3
 congr 1
 rw [Bool.eq_iff_iff]
 simp only [decide_eq_true_eq,Bool.or_eq_true]
 omega
theorem nodes_step (l:List NoA) {n:Nat} (h:n < l.length) (Q:F3):f3 Q (fAll ((l.take (n + 1)).map fun x => nodeW x.d)) = f3 (f3 Q (fAll ((l.take n).map fun x => nodeW x.d))) (nodeW (l.getD n noNoA).d):=by
 rw [fAll_take (fun x:NoA => nodeW x.d) l noNoA h rfl,← f3_assoc]
theorem inits_step (l:List InA) {n:Nat} (h:n < l.length) (Q:F3):f3 Q (fAll ((l.take (n + 1)).map fun x => f3 (longW x.nm) (tensW x.T))) = f3 (f3 (f3 Q (fAll ((l.take n).map fun x => f3 (longW x.nm) (tensW x.T)))) (longW (l.getD n noInA).nm)) (tensW (l.getD n noInA).T):=by
 rw [fAll_take (fun x:InA => f3 (longW x.nm) (tensW x.T)) l noInA h rfl,← f3_assoc,← f3_assoc]
theorem row5 {v:World} {b o c:Nat} {l:List NoA} {n:Nat} (h:Rc 5 noCells noNoA v (some ⟨b,o,none⟩) c l) (hn:n < l.length):∀ j u,(noCells (l.getD n noNoA))[j]? = some u → v.cell? ⟨b,o + n * 5 + j,none⟩ = some u:=by
 obtain ⟨b',o',e,_,hc⟩:=h.lies (by omega)
 simp only [Option.some.injEq,Addr.mk.injEq] at e
 obtain ⟨rfl,rfl,_⟩:=e
 exact hc n hn
theorem row6 {v:World} {b o c:Nat} {l:List InA} {n:Nat} (h:Rc 6 inCells noInA v (some ⟨b,o,none⟩) c l) (hn:n < l.length):∀ j u,(inCells (l.getD n noInA))[j]? = some u → v.cell? ⟨b,o + n * 6 + j,none⟩ = some u:=by
 obtain ⟨b',o',e,_,hc⟩:=h.lies (by omega)
 simp only [Option.some.injEq,Addr.mk.injEq] at e
 obtain ⟨rfl,rfl,_⟩:=e
 exact hc n hn
theorem rcheck7_any (a:MoA) {B:Nat} (w:World) (h:MoIn B w a) (hB:B ≤ w.heap.size) (hs:MoLt a) :
  Calls Tryz.prog 19 #[moV a] w fun e w' => e = .returned (.int .i64 (checkM a.d)) ∧ Below w.heap.size w w':=by
 obtain ⟨ops,nm,nodes,qn,cn,inits,qi,ci,inp,qp,cp,out,qo,co⟩:=a
 have HM:Hid (checkM (MoA.d ⟨ops,nm,nodes,qn,cn,inits,qi,ci,inp,qp,cp,out,qo,co⟩) = if (modelW (ops,nm,nodes.map NoA.d,inits.map InA.d,inp.map VaA.d,out.map VaA.d)).1 = true then 1 else if (modelW (ops,nm,nodes.map NoA.d,inits.map InA.d,inp.map VaA.d,out.map VaA.d)).2.2 = true then 8 else 0):=hide rfl
 have HF:=modelW_eq ops nm (nodes.map NoA.d) (inits.map InA.d) (inp.map VaA.d) (out.map VaA.d)
 rw [List.map_map,List.map_map,List.length_map,List.length_map] at HF
 generalize modelW (ops,nm,nodes.map NoA.d,inits.map InA.d,inp.map VaA.d,out.map VaA.d) = M at HF HM
 generalize checkM (MoA.d ⟨ops,nm,nodes,qn,cn,inits,qi,ci,inp,qp,cp,out,qo,co⟩) = CK at HM ⊢
 have HSn:Hid (∀ x ∈ nodes,NoLt x):=hide hs.1
 have HSi:Hid (∀ x ∈ inits,TenSm x.T):=hide hs.2
 unfold moV moCells strV
 simp only
 obtain ⟨b0,hb0⟩:∃ E,(ops != 17) = E:=⟨_,rfl⟩
 rw [hb0] at HF
 obtain ⟨WB,hWB⟩:∃ v,(w.alloc (Obj.cells #[.int .i64 ops,.string (strOfNums nm),.slice qn nodes.length cn,.slice qi inits.length ci,.slice qp inp.length cp,.slice qo out.length co] 29)).alloc (Obj.cells #[.bool b0,.bool false,.bool false] 62) = v:=⟨_,rfl⟩
 have XM:=hide ((Box.new w #[.int .i64 ops,.string (strOfNums nm),.slice qn nodes.length cn,.slice qi inits.length ci,.slice qp inp.length cp,.slice qo out.length co] 29).alloc (Obj.cells #[.bool b0,.bool false,.bool false] 62))
 have XF:Hid (FlB (w.heap.size + 1) ((w.alloc (Obj.cells #[.int .i64 ops,.string (strOfNums nm),.slice qn nodes.length cn,.slice qi inits.length ci,.slice qp inp.length cp,.slice qo out.length co] 29)).alloc (Obj.cells #[.bool b0,.bool false,.bool false] 62)) (bad3 b0)):=hide (by have:=Box.new (w.alloc (Obj.cells #[.int .i64 ops,.string (strOfNums nm),.slice qn nodes.length cn,.slice qi inits.length ci,.slice qp inp.length cp,.slice qo out.length co] 29)) #[.bool b0,.bool false,.bool false] 62; rw [alloc_size6] at this; exact this)
 have BB:=hide (al2p w (Obj.cells #[.int .i64 ops,.string (strOfNums nm),.slice qn nodes.length cn,.slice qi inits.length ci,.slice qp inp.length cp,.slice qo out.length co] 29) (Obj.cells #[.bool b0,.bool false,.bool false] 62))
 have HA:=hide (h.below (uh BB))
 rw [hWB] at XM XF BB HA
 have n1:=h.2.2.1.2.1.len
 have n2:=h.2.2.2.1.2.1.len
 simp only at n1 n2
 have H9:=hide hWB
 obtain ⟨g,hg⟩:∃ g,w.heap.size + 1 = g:=⟨_,rfl⟩
 rw [hg] at XF
 have HG:=hide hg
 have hBg:B ≤ g:=by omega
 have HX:=hide (fun v (hv:Stay g WB v) => hv.box (uh XM) (by have:=uh HG; omega))
 have HI:=hide (fun v (hv:Stay g WB v) => (uh HA).kept (Kept.stay hv (uh XF) hBg (by decide)))
 have HBL:=hide (fun v (hv:Stay g WB v) => bl_tr7 (uh BB) (bl_mono7 hv.1 (by have:=uh HG; omega)))
 clear h hs HA BB
 obtain ⟨c1,hc1⟩:∃ E,decide ((1024:Int) < (nodes.length:Int)) = E:=⟨_,rfl⟩
 obtain ⟨c2,hc2⟩:∃ E,decide ((1024:Int) < (inits.length:Int)) = E:=⟨_,rfl⟩
 rw [hc1,hc2] at HF
 obtain ⟨P,hP⟩:∃ P,f3 (longW nm) (big3 (c1 || c2)) = P:=⟨_,rfl⟩
 rw [hP] at HF
 have HP:=hide hP.symm
 replace HF:=hide HF
 clear hP
 have C1:=hide (rlong_any g nm _ WB (uh XF))
 unfold strV at C1
 have x3:=(uh XM).cell
 have hcs:c1 = true ∨ c1 = false ∧ c2 = true ∨ c1 = false ∧ c2 = false:=by cases c1 <;> cases c2 <;> simp
 rcases hcs with rfl | ⟨rfl,rfl⟩ | ⟨rfl,rfl⟩
 all_goals
  go_enter Tryz.func19,Tryz.ntmps19
  go_wp2_with fail
  try rw [hg]
  try rw [hWB]
  refine (uh C1).mono ?_
  rintro e w2 ⟨rfl,h2⟩
  have R2:=hide h2
  have F2:=hide (h2.2 _ (uh XF))
  clear h2 C1 x3 hWB hg XM
  have x4:=(uh HX _ (uh R2).1).cell
  have f1:=(uh F2).cell
  have f2:=(uh F2).frozen
  have f4:=(uh F2).lt
  go_wp2_with fail
  go_loopw [4] (fun iv wr => ∃ n:Nat,iv = .int .i64 n ∧ n ≤ nodes.length ∧ Hid (FE g (f3 P (fAll ((nodes.take n).map fun x => nodeW x.d))) WB wr)) (fun iv _ => nodes.length - (intOf iv).toNat)
  case atStart => exact ⟨0,rfl,by omega,hide (FE.eq (f:=P) (by first | exact ((uh R2).trans (FE.big g w2)).eq (by rw [uh HP]; rfl) | exact (uh R2).eq (by rw [uh HP]; exact (f3_no _).symm)) (f3_no _).symm)⟩
  case round =>
   obtain ⟨n,rfl,hn,R⟩:=hrel
   have XB:=(uh HX _ (uh R).1).cell
   by_cases hlt:n < nodes.length
   ·have hin:(n:Int) < (nodes.length:Int):=by omega
    obtain ⟨b,o,rfl,hb,_⟩:=(uh HI _ (uh R).1).2.2.1.2.1.lies (show 0 < nodes.length by omega)
    have hc:=row5 (uh HI _ (uh R).1).2.2.1.2.1 hlt
    have C1:=hide (rnodeW_any g (nodes.getD n noNoA) _ (B:=B) wr ((uh R).2 _ (uh XF)) hBg ((uh HI _ (uh R).1).2.2.1.1 _ (getD_mem7 hlt)) (uh HSn _ (getD_mem7 hlt)))
    have HT:=hide (nodes_step nodes hlt)
    generalize nodes.getD n noNoA = x at C1 hc HT
    obtain ⟨xop,xnm,xins,xqi,xci,xouts,xqo,xco,xat,xqa,xca⟩:=x
    have c0:=hc 0 _ rfl
    have d1:=hc 1 _ rfl
    have d2:=hc 2 _ rfl
    have d3:=hc 3 _ rfl
    have d4:=hc 4 _ rfl
    simp only [strV,noCells,Nat.add_zero] at C1 c0 d1 d2 d3 d4
    clear hc
    go_wp2_with fail
    refine (uh C1).mono ?_
    rintro e w9 ⟨rfl,h9⟩
    have R9:=hide (((uh R).trans h9).eq (uh HT _).symm)
    clear h9 C1 c0 d1 d2 d3 d4 XB
    go_wp2_with fail
    go_roundw
    case rel => exact ⟨n + 1,by go_num,by omega,R9⟩
    case measure => simp [intOf]; omega
   ·have hin:¬ (n:Int) < (nodes.length:Int):=by omega
    have ST:Hid (FE g (f3 P (fAll (nodes.map fun x => nodeW x.d))) WB wr):=hide ((uh R).eq (by rw [List.take_of_length_le (by omega)]))
    go_wp2_with fail
    clear hin hlt hn x4 f1 f2 f4 R XB
    go_loopw [5] (fun iv wr => ∃ n:Nat,iv = .int .i64 n ∧ n ≤ inits.length ∧ Hid (FE g (f3 (f3 P (fAll (nodes.map fun x => nodeW x.d))) (fAll ((inits.take n).map fun x => f3 (longW x.nm) (tensW x.T)))) WB wr)) (fun iv _ => inits.length - (intOf iv).toNat)
    case atStart => exact ⟨0,rfl,by omega,hide ((uh ST).eq (f3_no _).symm)⟩
    case round =>
     obtain ⟨n,rfl,hn,R⟩:=hrel
     have XB:=(uh HX _ (uh R).1).cell
     by_cases hlt:n < inits.length
     ·have hin:(n:Int) < (inits.length:Int):=by omega
      obtain ⟨b,o,rfl,hb,_⟩:=(uh HI _ (uh R).1).2.2.2.1.2.1.lies (show 0 < inits.length by omega)
      have HC:=hide (fun v (hv:Stay g WB v) => row6 (uh HI v hv).2.2.2.1.2.1 hlt)
      have C1:=hide (rlong_any g (inits.getD n noInA).nm _ wr ((uh R).2 _ (uh XF)))
      have C2:=hide (fun v k2 (hk:FlB g v k2) (hv:Stay g WB v) => rwrong_any g (inits.getD n noInA).T (inits.getD n noInA).A k2 v hk ((uh HI v hv).2.2.2.1.1 _ (getD_mem7 hlt)).2.1 (uh HSi _ (getD_mem7 hlt)))
      have HT:=hide (inits_step inits hlt)
      generalize inits.getD n noInA = x at C1 C2 HC HT
      obtain ⟨xnm,⟨ty,ds,fs,is,bs⟩,⟨pd,cd,pf,cf,pi,cii,pb,cb⟩⟩:=x
      simp only [strV,tenV,tenCells] at C1 C2
      have hc:=uh HC _ (uh R).1
      have e0:=hc 0 _ rfl
      simp only [strV,Nat.add_zero] at e0
      clear hc
      go_wp2_with fail
      refine (uh C1).mono ?_
      rintro e w8 ⟨rfl,h8⟩
      have R8:=hide ((uh R).trans h8)
      have F8:=hide (h8.2 _ ((uh R).2 _ (uh XF)))
      clear h8 C1 e0 XB
      have XB:=(uh HX _ (uh R8).1).cell
      have hc:=uh HC _ (uh R8).1
      have e1:=hc 1 _ rfl
      have e2:=hc 2 _ rfl
      have e3:=hc 3 _ rfl
      have e4:=hc 4 _ rfl
      have e5:=hc 5 _ rfl
      clear hc
      go_wp2_with fail
      refine (uh C2 _ _ (uh F8) (uh R8).1).mono ?_
      rintro e w9 ⟨rfl,h9⟩
      have R9:=hide (((uh R8).trans h9).eq (uh HT _).symm)
      clear h9 C2 e1 e2 e3 e4 e5 XB
      go_wp2_with fail
      go_roundw
      case rel => exact ⟨n + 1,by go_num,by omega,R9⟩
      case measure => simp [intOf]; omega
     ·have hin:¬ (n:Int) < (inits.length:Int):=by omega
      have SI:Hid (FE g (f3 (f3 P (fAll (nodes.map fun x => nodeW x.d))) (fAll (inits.map fun x => f3 (longW x.nm) (tensW x.T)))) WB wr):=hide ((uh R).eq (by rw [List.take_of_length_le (by omega)]))
      have C1:=hide (rvalsW_any g qp cp inp _ (B:=B) wr ((uh SI).2 _ (uh XF)) hBg (uh HI _ (uh SI).1).2.2.2.2.1.2.1 (uh HI _ (uh SI).1).2.2.2.2.1.2.2 (uh HI _ (uh SI).1).2.2.2.2.1.1)
      have C2:=hide (fun v k2 (hk:FlB g v k2) (hv:Stay g WB v) => rvalsW_any g qo co out k2 (B:=B) v hk hBg (uh HI v hv).2.2.2.2.2.2.1 (uh HI v hv).2.2.2.2.2.2.2 (uh HI v hv).2.2.2.2.2.1)
      go_wp2_with fail
      refine (uh C1).mono ?_
      rintro e w10 ⟨rfl,h10⟩
      have R10:=hide ((uh SI).trans h10)
      have F10:=hide (h10.2 _ ((uh SI).2 _ (uh XF)))
      clear h10 C1 XB ST R
      have XB:=(uh HX _ (uh R10).1).cell
      go_wp2_with fail
      refine (uh C2 _ _ (uh F10) (uh R10).1).mono ?_
      rintro e w11 ⟨rfl,h11⟩
      have R11:=hide ((uh R10).trans h11)
      have FM:Hid (FlB g w11 M):=hide (by have:=(uh R11).2 _ (uh XF); rw [uh HF]; exact this)
      have BL:=hide (uh HBL _ (uh R11).1)
      clear h11 C2 XB R10 F10 SI hin hlt hn HF
      obtain ⟨m1,m2,m3⟩:=M
      have y1:=(uh FM).cell
      have y2:=(uh FM).lt
      simp only at HM y1
      cases m1
      ·cases m3
       ·have e9:CK = 0:=by rw [uh HM]; rfl
        subst e9
        go_wp2_with fail
        go_ret
        exact ⟨rfl,uh BL⟩
       ·have e9:CK = 8:=by rw [uh HM]; rfl
        subst e9
        go_wp2_with fail
        go_ret
        exact ⟨rfl,uh BL⟩
      ·have e9:CK = 1:=by rw [uh HM]; rfl
       subst e9
       go_wp2_with fail
       go_ret
       exact ⟨rfl,uh BL⟩
end Go.Proofs.YtmdlaahdgjegcaaGreat
