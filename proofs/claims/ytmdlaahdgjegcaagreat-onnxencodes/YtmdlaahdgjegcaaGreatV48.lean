import Derived.Test.YtmdlaahdgjegcaaGreatV43
set_option maxRecDepth 100000
set_option maxHeartbeats 8000000
namespace Go.Proofs.YtmdlaahdgjegcaaGreat
open Go.RowKit
set_option linter.unusedVariables false
theorem nodeW_eq (op nm:Str) (ins outs:List Str) (at':List AttrD):nodeW (op,nm,ins,outs,at') = f3 (f3 (f3 (f3 (f3 (f3 (longW op) (longW nm)) (bad3 (strOfNums op).toList.isEmpty)) (big3 (decide ((64:Int) < (ins.length:Int)) || decide ((64:Int) < (outs.length:Int)) || decide ((64:Int) < (at'.length:Int))))) (fAll (ins.map longW))) (fAll (outs.map longW))) (fAll (at'.map attrW)):=by
 unfold nodeW
 simp only
 rw [fAll_append,fAll_append,fAll_append,fAll_cons,fAll_cons,fAll_cons,fAll_cons,str_isE]
 show f3 (f3 (f3 (f3 _ (f3 _ (f3 _ (f3 _ no3)))) _) _) _ = _
 rw [f3_no,← f3_assoc,← f3_assoc]
 congr 5
 rw [Bool.eq_iff_iff]
 simp only [decide_eq_true_eq,Bool.or_eq_true]
 omega
theorem longs_step (l:List Str) {n:Nat} (h:n < l.length) (Q:F3):f3 Q (fAll ((l.take (n + 1)).map longW)) = f3 (f3 Q (fAll ((l.take n).map longW))) (longW (l.getD n default)):=by
 rw [fAll_take longW l default h rfl,← f3_assoc]
theorem attrs_step (l:List AtA) {n:Nat} (h:n < l.length) (Q:F3):f3 Q (fAll ((l.take (n + 1)).map fun x => attrW x.d)) = f3 (f3 Q (fAll ((l.take n).map fun x => attrW x.d))) (attrW (l.getD n noAtA).d):=by
 rw [fAll_take (fun x:AtA => attrW x.d) l noAtA h rfl,← f3_assoc]
theorem rowS {v:World} {b o c:Nat} {l:List Str} {n:Nat} (h:Ls strV v (some ⟨b,o,none⟩) c l) (hn:n < l.length):v.cell? ⟨b,o + n,none⟩ = some (.string (strOfNums (l.getD n default))):=by
 obtain ⟨b',o',e,_,hc⟩:=h.lies (by omega)
 simp only [Option.some.injEq,Addr.mk.injEq] at e
 obtain ⟨rfl,rfl,_⟩:=e
 exact hc n hn
theorem row12 {v:World} {b o c:Nat} {l:List AtA} {n:Nat} (h:Rc 12 atCells noAtA v (some ⟨b,o,none⟩) c l) (hn:n < l.length):∀ j u,(atCells (l.getD n noAtA))[j]? = some u → v.cell? ⟨b,o + n * 12 + j,none⟩ = some u:=by
 obtain ⟨b',o',e,_,hc⟩:=h.lies (by omega)
 simp only [Option.some.injEq,Addr.mk.injEq] at e
 obtain ⟨rfl,rfl,_⟩:=e
 exact hc n hn
theorem rnodeW_any (g:Nat) (a:NoA) (k:F3) {B:Nat} (w:World) (hw:FlB g w k) (hB:B ≤ g) (h:NoIn B w a) (hs:NoLt a) :
  Calls Tryz.prog 50 #[.pointer (some ⟨g,0,none⟩),.agg (noCells a).toArray] w fun e w' => e = .returned (.tuple #[]) ∧ FE g (nodeW a.d) w w':=by
 obtain ⟨op,nm,ins,qi,ci,outs,qo,co,atl,qa,ca⟩:=a
 have z1:=Box.lt hw
 have HF:=nodeW_eq op nm ins outs (atl.map AtA.d)
 rw [List.map_map,List.length_map] at HF
 unfold NoA.d
 simp only
 generalize nodeW (op,nm,ins,outs,atl.map AtA.d) = F at HF ⊢
 have HS:Hid (∀ x ∈ atl,TenSm x.T):=hide hs
 show Calls Tryz.prog _ #[_,.agg #[.string (strOfNums op),.string (strOfNums nm),.slice qi ins.length ci,.slice qo outs.length co,.slice qa atl.length ca]] w _
 have X3:=hide (Box.new w #[.string (strOfNums op),.string (strOfNums nm),.slice qi ins.length ci,.slice qo outs.length co,.slice qa atl.length ca] 75)
 have HWA:=hide (Box.below hw (al1p w (Obj.cells #[.string (strOfNums op),.string (strOfNums nm),.slice qi ins.length ci,.slice qo outs.length co,.slice qa atl.length ca] 75)))
 have HA:=hide (h.kept (TS:=modelTS) (fun t ht => by simp only [nodeTS,List.mem_cons,List.not_mem_nil,or_false] at ht; rcases ht with rfl | rfl | rfl | rfl | rfl | rfl <;> simp [modelTS]) (Kept.below (al1p w (Obj.cells #[.string (strOfNums op),.string (strOfNums nm),.slice qi ins.length ci,.slice qo outs.length co,.slice qa atl.length ca] 75))))
 have n1:=h.2.2.1.2.1.len
 have n2:=h.2.2.2.1.2.1.len
 have n3:=h.2.2.2.2.2.1.len
 simp only at n1 n2 n3
 have z9:g ≠ w.heap.size:=by omega
 clear hw h hs
 obtain ⟨WA,hWA⟩:∃ v,w.alloc (Obj.cells #[.string (strOfNums op),.string (strOfNums nm),.slice qi ins.length ci,.slice qo outs.length co,.slice qa atl.length ca] 75) = v:=⟨_,rfl⟩
 rw [hWA] at X3 HWA HA
 have HX:=hide (fun v (hv:Stay g WA v) => hv.box (uh X3) (Ne.symm z9))
 have HI:=hide (fun v (hv:Stay g WA v) => (uh HA).kept (TS:=modelTS) (fun t ht => by simp only [nodeTS,List.mem_cons,List.not_mem_nil,or_false] at ht; rcases ht with rfl | rfl | rfl | rfl | rfl | rfl <;> simp [modelTS]) (Kept.stay hv (uh HWA) hB (by decide)))
 clear HA
 obtain ⟨E,hE⟩:∃ E,(strOfNums op).toList.isEmpty = E:=⟨_,rfl⟩
 obtain ⟨c1,hc1⟩:∃ E,decide ((64:Int) < (ins.length:Int)) = E:=⟨_,rfl⟩
 obtain ⟨c2,hc2⟩:∃ E,decide ((64:Int) < (outs.length:Int)) = E:=⟨_,rfl⟩
 obtain ⟨c3,hc3⟩:∃ E,decide ((64:Int) < (atl.length:Int)) = E:=⟨_,rfl⟩
 rw [hE,hc1,hc2,hc3] at HF
 obtain ⟨P,hP⟩:∃ P,f3 (f3 (f3 (longW op) (longW nm)) (bad3 E)) (big3 (c1 || c2 || c3)) = P:=⟨_,rfl⟩
 rw [hP] at HF
 have HP:=hide hP.symm
 replace HF:=hide HF
 clear hP
 have C1:=hide (rlong_any g op k WA (uh HWA))
 have C2:=hide (fun v k2 (h2:FlB g v k2) => rlong_any g nm k2 v h2)
 unfold strV at C1 C2
 have x3:=(uh X3).cell
 have H9:=hide hWA
 have hcs:c1 = true ∨ c1 = false ∧ c2 = true ∨ c1 = false ∧ c2 = false ∧ c3 = true ∨ c1 = false ∧ c2 = false ∧ c3 = false:=by cases c1 <;> cases c2 <;> cases c3 <;> simp
 cases E <;> rcases hcs with rfl | ⟨rfl,rfl⟩ | ⟨rfl,rfl,rfl⟩ | ⟨rfl,rfl,rfl⟩
 all_goals
  go_enter Tryz.func50,Tryz.ntmps50
  go_wp2_with fail
  try rw [hWA]
  refine (uh C1).mono ?_
  rintro e w1 ⟨rfl,h1⟩
  have R1:=hide h1
  have F1:=hide (h1.2 k (uh HWA))
  clear h1 C1 x3 hWA X3
  have x3:=(uh HX _ (uh R1).1).cell
  go_wp2_with fail
  refine (uh C2 _ _ (uh F1)).mono ?_
  rintro e w2 ⟨rfl,h2⟩
  have R2:=hide ((uh R1).trans h2)
  have F2:=hide (h2.2 _ (uh F1))
  clear h2 C2 x3 R1 F1
  have x4:=(uh HX _ (uh R2).1).cell
  have f1:=(uh F2).cell
  have f2:=(uh F2).frozen
  have f3':=(uh F2).lt
  have y1:=(uh HX _ ((uh R2).trans (FE.bad g w2)).1).cell
  have y2:=(Box.same (uh F2) 0 (.bool true)).frozen
  have HE:=hide (at_end (uh HP) (uh R2))
  go_wp2_with fail
  go_loopw [4] (fun iv wr => ∃ n:Nat,iv = .int .i64 n ∧ n ≤ ins.length ∧ Hid (FE g (f3 P (fAll ((ins.take n).map longW))) WA wr)) (fun iv _ => ins.length - (intOf iv).toNat)
  case atStart => exact ⟨0,rfl,by omega,hide (FE.eq (f:=P) (by first | exact (uh HE).1 (by simp) (by simp) | exact (uh HE).2.1 (by simp) (by simp) | exact (uh HE).2.2.1 (by simp) (by simp) | exact (uh HE).2.2.2 (by simp) (by simp)) (f3_no _).symm)⟩
  case round =>
   obtain ⟨n,rfl,hn,R⟩:=hrel
   have XB:=(uh HX _ (uh R).1).cell
   by_cases hlt:n < ins.length
   ·have hin:(n:Int) < (ins.length:Int):=by omega
    obtain ⟨b,o,rfl,hb,hc⟩:=(uh HI _ (uh R).1).2.2.1.2.1.lies (show 0 < ins.length by omega)
    have cn:=hc n hlt
    clear hc
    have C1:=hide (rlong_any g (ins.getD n default) _ wr ((uh R).2 k (uh HWA)))
    have HT:=hide (longs_step ins hlt)
    unfold strV at C1 cn
    generalize ins.getD n default = x at C1 cn HT
    go_wp2_with fail
    refine (uh C1).mono ?_
    rintro e w9 ⟨rfl,h9⟩
    have R9:=hide (((uh R).trans h9).eq (uh HT _).symm)
    clear h9 C1 cn XB
    go_wp2_with fail
    go_roundw
    case rel => exact ⟨n + 1,by go_num,by omega,R9⟩
    case measure => simp [intOf]; omega
   ·have hin:¬ (n:Int) < (ins.length:Int):=by omega
    replace R:=hide ((uh R).eq (by rw [List.take_of_length_le (by omega)]))
    go_wp2_with fail
    clear hin hlt hn HE x4 f1 f2 f3' y1 y2
    have ST:=R
    clear R XB
    go_loopw [5] (fun iv wr => ∃ n:Nat,iv = .int .i64 n ∧ n ≤ outs.length ∧ Hid (FE g (f3 (f3 P (fAll (ins.map longW))) (fAll ((outs.take n).map longW))) WA wr)) (fun iv _ => outs.length - (intOf iv).toNat)
    case atStart => exact ⟨0,rfl,by omega,hide ((uh ST).eq (f3_no _).symm)⟩
    case round =>
     obtain ⟨n,rfl,hn,R⟩:=hrel
     have XB:=(uh HX _ (uh R).1).cell
     by_cases hlt:n < outs.length
     ·have hin:(n:Int) < (outs.length:Int):=by omega
      obtain ⟨b,o,rfl,hb,hc⟩:=(uh HI _ (uh R).1).2.2.2.1.2.1.lies (show 0 < outs.length by omega)
      have cn:=hc n hlt
      clear hc
      have C1:=hide (rlong_any g (outs.getD n default) _ wr ((uh R).2 k (uh HWA)))
      have HT:=hide (longs_step outs hlt)
      unfold strV at C1 cn
      generalize outs.getD n default = x at C1 cn HT
      go_wp2_with fail
      refine (uh C1).mono ?_
      rintro e w9 ⟨rfl,h9⟩
      have R9:=hide (((uh R).trans h9).eq (uh HT _).symm)
      clear h9 C1 cn XB
      go_wp2_with fail
      go_roundw
      case rel => exact ⟨n + 1,by go_num,by omega,R9⟩
      case measure => simp [intOf]; omega
     ·have hin:¬ (n:Int) < (outs.length:Int):=by omega
      replace R:=hide ((uh R).eq (by rw [List.take_of_length_le (by omega)]))
      go_wp2_with fail
      clear hin hlt hn ST
      have ST:=R
      clear R XB
      go_loopw [6] (fun iv wr => ∃ n:Nat,iv = .int .i64 n ∧ n ≤ atl.length ∧ Hid (FE g (f3 (f3 (f3 P (fAll (ins.map longW))) (fAll (outs.map longW))) (fAll ((atl.take n).map fun x => attrW x.d))) WA wr)) (fun iv _ => atl.length - (intOf iv).toNat)
      case atStart => exact ⟨0,rfl,by omega,hide ((uh ST).eq (f3_no _).symm)⟩
      case round =>
       obtain ⟨n,rfl,hn,R⟩:=hrel
       have XB:=(uh HX _ (uh R).1).cell
       by_cases hlt:n < atl.length
       ·have hin:(n:Int) < (atl.length:Int):=by omega
        obtain ⟨b,o,rfl,hb,_⟩:=(uh HI _ (uh R).1).2.2.2.2.2.1.lies (show 0 < atl.length by omega)
        have hc:=row12 (uh HI _ (uh R).1).2.2.2.2.2.1 hlt
        have C1:=hide (rattrW_any g (atl.getD n noAtA) _ (B:=B) wr ((uh R).2 k (uh HWA)) ((uh HI _ (uh R).1).2.2.2.2.1 _ (getD_mem7 hlt)) hB (uh HS _ (getD_mem7 hlt)))
        have HT:=hide (attrs_step atl hlt)
        generalize atl.getD n noAtA = x at C1 hc HT
        obtain ⟨xnm,xkd,xf,xi,xs,⟨ty,ds,fs,is,bs⟩,⟨pd,cd,pf,cf,pi,cii,pb,cb⟩,xfl,xqf,xcf,xil,xqi,xci⟩:=x
        have c0:=hc 0 _ rfl
        have c1:=hc 1 _ rfl
        have c2:=hc 2 _ rfl
        have c3:=hc 3 _ rfl
        have c4:=hc 4 _ rfl
        have c5:=hc 5 _ rfl
        have c6:=hc 6 _ rfl
        have c7:=hc 7 _ rfl
        have c8:=hc 8 _ rfl
        have c9:=hc 9 _ rfl
        have c10:=hc 10 _ rfl
        have c11:=hc 11 _ rfl
        simp only [strV,tenCells,atCells,List.cons_append,List.nil_append,Nat.add_zero] at C1 c0 c1 c2 c3 c4 c5 c6 c7 c8 c9 c10 c11
        clear hc
        go_wp2_with fail
        refine (uh C1).mono ?_
        rintro e w9 ⟨rfl,h9⟩
        have R9:=hide (((uh R).trans h9).eq (uh HT _).symm)
        clear h9 C1 c0 c1 c2 c3 c4 c5 c6 c7 c8 c9 c10 c11 XB
        go_wp2_with fail
        go_roundw
        case rel => exact ⟨n + 1,by go_num,by omega,R9⟩
        case measure => simp [intOf]; omega
       ·have hin:¬ (n:Int) < (atl.length:Int):=by omega
        have HE:Hid (FE g F w wr):=hide (FE.al (Obj.cells #[.string (strOfNums op),.string (strOfNums nm),.slice _ ins.length ci,.slice _ outs.length co,.slice _ atl.length ca] 75) z1 (by rw [uh H9]; exact FE.eq (f':=F) (uh R) (by rw [List.take_of_length_le (by omega)]; exact (uh HF).symm)))
        go_wp2_with fail
        go_end0
        exact ⟨rfl,uh HE⟩
end Go.Proofs.YtmdlaahdgjegcaaGreat
