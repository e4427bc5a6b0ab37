import Derived.Test.YtbmmcbagdomonaaGreatV07
set_option maxRecDepth 100000
set_option maxHeartbeats 40000000
namespace Go.Proofs.YtbmmcbagdomonaaGreat
open Go.RowKit
set_option linter.unusedVariables false
theorem czero_3 (a:AtA) (w:World) (h:TenSm a.T) (h0:a.T.1 = 0) (h1:a.T.2.1.length = 0):Calls Tryz.prog 152 #[.agg (atCells a).toArray] w fun e w' => e = .returned (.bool (zeroA a)) ∧ Below w.heap.size w w':=by
 obtain ⟨nm,kd,f,i,s,⟨ty,ds,fs,is,bs⟩,⟨pd,cd,pf,cf,pi,ci,pb,cb⟩,fl,qf,cf',li,qi,ci'⟩:=a
 have CE:=hide (fun v => celems_any (ty,ds,fs,is,bs) ⟨pd,cd,pf,cf,pi,ci,pb,cb⟩ v h)
 obtain ⟨R,hR⟩:∃ R,zeroA ⟨nm,kd,f,i,s,(ty,ds,fs,is,bs),⟨pd,cd,pf,cf,pi,ci,pb,cb⟩,fl,qf,cf',li,qi,ci'⟩ = R:=⟨_,rfl⟩
 have HN:Hid (noneT (ty,ds,fs,is,bs) = (ty == 0 && ((ds.length:Int) == 0 && elemsN (ty,ds,fs,is,bs) == 0))):=hide rfl
 have HR:Hid (R = (f == 0 && (i == 0 && (decide (s = []) && (noneT (ty,ds,fs,is,bs) && ((fl.length:Int) == 0 && (li.length:Int) == 0)))))):=hide (by rw [← hR]; rfl)
 rw [hR]
 rw [← str_isE] at HR
 clear hR h
 generalize noneT (ty,ds,fs,is,bs) = NT at HN HR
 generalize elemsN (ty,ds,fs,is,bs) = EN at CE HN
 unfold tenV tenCells at CE
 unfold atCells tenCells strV
 simp only [List.cons_append,List.nil_append]
 have HB:=hide (fun o => al1p w o)
 simp only at h0 h1
 have hds:ds = []:=List.eq_nil_of_length_eq_zero h1
 subst hds
 subst h0
 rw [show ((0:Int) == 0) = true from rfl,Bool.true_and,show ((([]:List Int).length:Int) == 0) = true from rfl,Bool.true_and] at HN
 replace HN:=uh HN
 subst HN
 clear h1
 simp only [List.length_nil] at CE ⊢
 go_enter Tryz.func152,Tryz.ntmps152
 go_wp2_with fail
 refine (uh CE _).mono ?_
 rintro e v ⟨rfl,hv⟩
 have B1:=hide (bl_tr (al1p w (Obj.cells #[.string (strOfNums nm),.int .i64 kd,.int .u32 f,.int .i64 i,.string (strOfNums s),.int .i64 0,.slice pd 0 cd,.slice pf fs.length cf,.slice pi is.length ci,.slice pb bs.length cb,.slice qf fl.length cf',.slice qi li.length ci'] 121)) hv)
 have x1:=(Box.below (Box.new w #[.string (strOfNums nm),.int .i64 kd,.int .u32 f,.int .i64 i,.string (strOfNums s),.int .i64 0,.slice pd 0 cd,.slice pf fs.length cf,.slice pi is.length ci,.slice pb bs.length cb,.slice qf fl.length cf',.slice qi li.length ci'] 121) hv).cell
 clear hv CE
 have HF:Hid (f ≠ 0 → false = R):=hide (fun h => by rw [uh HR,show (f == 0) = false by simp [h]]; rfl)
 by_cases cf0:f = 0
 rotate_left
 ·have HE:=hide (uh HF cf0)
  have tf:(f == 0) = false:=by simp [cf0]
  clear HF HR
  go_wp2_with fail
  all_goals (go_ret; exact ⟨ret_bool (uh HE),uh B1⟩)
 subst cf0
 by_cases ci0:i = 0
 rotate_left
 ·have ti:(i == 0) = false:=by simp [ci0]
  have HE:Hid (false = R):=hide (by rw [uh HR,ti]; rfl)
  clear HF HR
  go_wp2_with fail
  all_goals (go_ret; exact ⟨ret_bool (uh HE),uh B1⟩)
 subst ci0
 obtain ⟨S,hS⟩:∃ S,(strOfNums s).toList.isEmpty = S:=⟨_,rfl⟩
 rw [hS] at HR
 cases S
 ·have HE:Hid (false = R):=hide (by rw [uh HR]; rfl)
  clear HF HR
  go_wp2_with fail
  all_goals (go_ret; exact ⟨ret_bool (uh HE),uh B1⟩)
 by_cases cn0:EN = 0
 rotate_left
 ·have tn:(EN == 0) = false:=by simp [cn0]
  have HE:Hid (false = R):=hide (by rw [uh HR,tn]; rfl)
  clear HF HR
  go_wp2_with fail
  all_goals (go_ret; exact ⟨ret_bool (uh HE),uh B1⟩)
 subst cn0
 by_cases cl0:(fl.length:Int) = 0
 rotate_left
 ·have tl:((fl.length:Int) == 0) = false:=by rw [beq_eq_false_iff_ne]; exact cl0
  have HE:Hid (false = R):=hide (by rw [uh HR,tl]; rfl)
  clear HF HR
  go_wp2_with fail
  all_goals (go_ret; exact ⟨ret_bool (uh HE),uh B1⟩)
 have tl:((fl.length:Int) == 0) = true:=by rw [beq_iff_eq]; exact cl0
 have HE:Hid (((li.length:Int) == 0) = R):=hide (by rw [uh HR,tl]; rfl)
 clear HF HR
 go_wp2_with fail
 go_ret
 exact ⟨ret_bool (uh HE),uh B1⟩
end Go.Proofs.YtbmmcbagdomonaaGreat
