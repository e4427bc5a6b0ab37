import Derived.Test.YtbmmcbagdomonaaGreatV19
import Derived.Test.YtbmmcbagdomonaaGreatV20
set_option maxRecDepth 100000
set_option maxHeartbeats 40000000
namespace Go.Proofs.YtbmmcbagdomonaaGreat
open Go.RowKit
set_option linter.unusedVariables false
theorem tcanon_any (T:Ten) (A:TA) (w:World) (h:TenIn w T A) (hs:okLen T) :
  Calls Tryz.prog 105 #[tenV T A] w fun e w' => (∃ C,e = .returned (tenV (canonT T) C) ∧ TenOwn w.heap.size w' (canonT T) C) ∧ Below w.heap.size w w':=by
 obtain ⟨ty,ds,fs,is,bs⟩:=T
 obtain ⟨pd,cd,pf,cf,pi,ci,pb,cb⟩:=A
 have CP:=hide (fun w h => tcopy_any (ty,ds,fs,is,bs) ⟨pd,cd,pf,cf,pi,ci,pb,cb⟩ w h hs)
 have H:=hide h
 have nf:=h.2.2.1.len
 simp only at nf
 unfold tenV tenCells at CP
 simp only at CP
 unfold tenV tenCells canonT
 simp only [List.length_map]
 clear hs h
 go_enter Tryz.func105,Tryz.ntmps105
 go_wp2_with fail
 refine (uh CP _ ((uh H).below (al2 _ _ _))).mono ?_
 rintro e w1 ⟨⟨C,rfl,hO⟩,hb⟩
 obtain ⟨qd,ed,qf,ef,qi,ei,qb,eb⟩:=C
 have X1:=hide (Box.below (Box.new (w.alloc _) #[.int .i64 0,.slice none 0 0,.slice none 0 0,.slice none 0 0,.slice none 0 0] 47) hb)
 simp only [alloc_size] at X1
 have B1:=hide (bl_tr (al2 _ _ _) hb)
 have O1:=hide hO
 simp only [alloc_size] at O1
 have z1:w.heap.size + 1 < w1.heap.size:=(uh X1).lt
 clear hb CP hO
 simp only
 go_wp2_with fail
 go_loopw [11] (fun iv wr => ∃ n:Nat,iv = .int .i64 n ∧ n ≤ fs.length ∧ TenOwn (w.heap.size + 2) wr (ty,ds,turnL fs n,is,bs) ⟨qd,ed,qf,ef,qi,ei,qb,eb⟩ ∧ Below (w.heap.size + 2) w1 wr ∧ w1.heap.size < wr.heap.size ∧ Box wr (w.heap.size + 1) #[.int .i64 0,.slice none 0 0,.slice none 0 0,.slice none 0 0,.slice none 0 0] 47 ∧ Box wr w1.heap.size #[.int .i64 ty,.slice qd ds.length ed,.slice qf fs.length ef,.slice qi is.length ei,.slice qb bs.length eb] 47) (fun iv _ => fs.length - (intOf iv).toNat)
 case atStart => exact ⟨0,rfl,by omega,by rw [turnL_zero]; exact (uh O1).below (al1 _ _),(Below.refl _ _).alloc (by omega) _,by simp,(uh X1).alloc _,Box.new _ _ _⟩
 case round =>
  obtain ⟨n,rfl,hn,hO,hB,hz,h1,h5⟩:=hrel
  have BR:=hide hB
  have OO:=hide hO
  have BW:=hide (show Below w.heap.size w wr from (uh B1).trans (hB.mono (by omega)))
  have XB:=hide h1
  have XC:=hide h5
  have c1:=h1.cell
  have f1:=h1.frozen
  have c5:=h5.cell
  have zz:=h1.lt
  clear hB hO h1 h5
  by_cases hlt:n < fs.length
  ·have hi:(n:Int) < (fs.length:Int):=by omega
   have htl:(turnL fs n).length = fs.length:=turnL_length fs n hn
   obtain ⟨b4,o4,hq4,hb4,hc4⟩:=(uh OO).1.2.2.1.lies (show 0 < (turnL fs n).length by omega)
   simp only at hq4
   subst hq4
   have hb4b:w.heap.size + 2 ≤ b4:=((uh OO).2.2.1 b4 o4 rfl (show 0 < (turnL fs n).length by omega)).1
   have z4:wr.frozen? ⟨b4,o4 + n,none⟩ = false:=((uh OO).2.2.1 b4 o4 rfl (show 0 < (turnL fs n).length by omega)).2 n (show n < (turnL fs n).length by omega)
   have k4:=hc4 n (show n < (turnL fs n).length by omega)
   simp only at k4
   rw [turnL_getD fs n hlt] at k4
   obtain ⟨b6,o6,hq6,hb6,_⟩:=(uh O1).1.2.2.1.lies (show 0 < fs.length by omega)
   simp only [Option.some.injEq,Addr.mk.injEq] at hq6
   obtain ⟨rfl,rfl,_⟩:=hq6
   have hb4x:b4 ≠ w.heap.size + 1:=by omega
   have hb4y:b4 ≠ w1.heap.size:=by omega
   obtain ⟨r0,r1⟩:=wf_u32_iff ((uh H).2.2.1.wf n hlt)
   simp only at r0 r1
   have HTS:=hide (fun x hx => turnL_set fs n hlt x hx)
   have STO:=hide (fun x (hx:(Lit.int .u32 x).wf = true) => (uh OO).storeF n (show n < (turnL fs n).length by omega) x hx)
   clear hc4 htl OO
   generalize fs.getD n 0 = x at k4 r0 r1 HTS
   obtain ⟨q0,q1⟩:=canon_wf r0 r1
   have O3:=hide (uh STO (Flt.canon x) (WalkArith6 q0 q1))
   rw [uh HTS _ rfl] at O3
   have RC:=hide (fun w => canon_any x r0 r1 w)
   generalize Flt.canon x = y at q0 q1 O3 RC
   clear HTS STO
   go_wp2_with fail
   go_region_with (go_at_call 143; refine (uh RC _).mono ?_; rintro e w6 ⟨rfl,rfl⟩)
   all_goals
    go_wp2_with fail
    go_roundw
    case rel => exact ⟨n + 1,by go_num,by omega,(uh O3).below (bdrew _),((uh BR).setCell (by omega) _).drew,by simpa [World.setCell] using hz,((uh XB).other (Ne.symm hb4x) _ _).below (bdrew _),((uh XC).other (Ne.symm hb4y) _ _).below (bdrew _)⟩
    case measure => simp [intOf]; omega
  ·have hi:¬ (n:Int) < (fs.length:Int):=by omega
   have en:n = fs.length:=by omega
   have hOF:=uh OO
   rw [turnL_all fs n en] at hOF
   have HOF:=hide hOF
   clear hOF OO
   go_wp2_with fail
   refine bodyPost_ret (v:=.agg #[.int .i64 ty,.slice qd ds.length ed,.slice qf fs.length ef,.slice qi is.length ei,.slice qb bs.length eb]) (by simp [results,Tryz.results105,go_sem,((uh XB).set5T (.int .i64 ty) (.slice qd ds.length ed) (.slice qf fs.length ef) (.slice qi is.length ei) (.slice qb bs.length eb)).cell]) rfl ⟨⟨⟨qd,ed,qf,ef,qi,ei,qb,eb⟩,rfl,?_⟩,bset5T (uh BW) (by omega) _ _ _ _ _⟩
   exact ((uh HOF).mid ((Mid.refl (w.heap.size + 1) (w.heap.size + 2) _).set5T (by omega) (by omega) _ _ _ _ _) (by omega)).mono (by omega)
end Go.Proofs.YtbmmcbagdomonaaGreat
