import Derived.Test.YtbmmcbagdomonaaGreatV06
import Derived.Test.YtbmmcbagdomonaaGreatV07
import Derived.Test.YtbmmcbagdomonaaGreatV13
import Derived.Test.YtbmmcbagdomonaaGreatV14
import Derived.Test.YtbmmcbagdomonaaGreatV15
set_option maxRecDepth 100000
set_option maxHeartbeats 40000000
namespace Go.Proofs.YtbmmcbagdomonaaGreat
open Go.RowKit
set_option linter.unusedVariables false
theorem czero_any (a:AtA) (w:World) (h:TenSm a.T):Calls Tryz.prog 152 #[.agg (atCells a).toArray] w fun e w' => e = .returned (.bool (zeroA a)) ∧ Below w.heap.size w w':=by
 by_cases h0:a.T.1 = 0
 ·by_cases h1:a.T.2.1.length = 0
  ·exact czero_3 a w h h0 h1
  ·exact czero_2 a w h h0 h1
 ·exact czero_1 a w h h0
theorem rest_sm {a:AtA} (h:TenSm a.T):TenSm (restA a).T:=by
 unfold restA
 split
 ·exact h
 ·split
  ·exact h
  ·split
   ·exact h
   ·split
    ·exact ⟨by simp [noTen],by simp [noTen],by simp [noTen],by simp [noTen]⟩
    ·split
     ·exact h
     ·split
      ·exact h
      ·exact h
theorem cattrMay_any (a:AtA) {B:Nat} (w:World) (h:AtIn B w a) (hs:TenSm a.T) :
  Calls Tryz.prog 120 #[.agg (atCells a).toArray] w fun e w' => e = .returned (.bool (mayA a.d)) ∧ Below w.heap.size w w':=by
 have C1:=hide (fun v => ckept_any a v)
 have C2:=hide (fun v (hv:Below w.heap.size w v) => ctenMay_any a.T a.A v (h.2.2.2.2.2.1.1.below hv) hs)
 have C3:=hide (fun v => cothers_any a v)
 have C4:=hide (fun v => czero_any (restA a) v (rest_sm hs))
 have HZ:=hide (zero_rest a)
 obtain ⟨R,hR⟩:∃ R,mayA a.d = R:=⟨_,rfl⟩
 have HR:Hid (R = ((if a.kd = 4 then mayT a.T else kindB a.kd) && zeroA (restA a))):=hide (by rw [← hR,uh HZ]; rfl)
 rw [hR]
 clear hR HZ h hs
 obtain ⟨ZR,hZ⟩:∃ z,zeroA (restA a) = z:=⟨_,rfl⟩
 rw [hZ] at HR C4
 clear hZ
 generalize restA a = r at C3 C4
 generalize keptA a = kp at C1
 generalize mayT a.T = MT at C2 HR
 obtain ⟨nm,kd,f,i,s,⟨ty,ds,fs,is,bs⟩,⟨pd,cd,pf,cf,pi,ci,pb,cb⟩,fl,qf,cf',li,qi,ci'⟩:=a
 simp only at C1 C2 C3 C4 HR
 unfold atCells tenCells strV at C1 C3 C4 ⊢
 unfold tenV tenCells at C2
 simp only [List.cons_append,List.nil_append] at C1 C2 C3 C4 ⊢
 have BN:Hid (∀ v,Below (w.alloc (Obj.cells #[.string (strOfNums nm),.int .i64 kd,.int .u32 f,.int .i64 i,.string (strOfNums s),.int .i64 ty,.slice pd ds.length cd,.slice pf fs.length cf,.slice pi is.length ci,.slice pb bs.length cb,.slice qf fl.length cf',.slice qi li.length ci'] 121)).heap.size (w.alloc (Obj.cells #[.string (strOfNums nm),.int .i64 kd,.int .u32 f,.int .i64 i,.string (strOfNums s),.int .i64 ty,.slice pd ds.length cd,.slice pf fs.length cf,.slice pi is.length ci,.slice pb bs.length cb,.slice qf fl.length cf',.slice qi li.length ci'] 121)) v → Box v w.heap.size #[.string (strOfNums nm),.int .i64 kd,.int .u32 f,.int .i64 i,.string (strOfNums s),.int .i64 ty,.slice pd ds.length cd,.slice pf fs.length cf,.slice pi is.length ci,.slice pb bs.length cb,.slice qf fl.length cf',.slice qi li.length ci'] 121):=hide (fun v hv => Box.below (Box.new w _ _) hv)
 by_cases h4:kd = 4
 ·have t4:(kd == 4) = true:=by simp [h4]
  rw [if_pos h4] at HR
  generalize kindB kd = KB at C1
  clear h4
  go_enter Tryz.func120,Tryz.ntmps120
  go_wp2_with fail
  refine (uh C1 _).mono ?_
  rintro e v1 ⟨rfl,hv⟩
  have B1:=hide (fun o => bl_tr hv (al1p v1 o))
  have x1:=fun o => (Box.alloc (uh BN _ hv) o).cell
  clear hv C1
  go_wp2_with fail
  refine (uh C2 _ (bl_tr (al1p _ _) (uh B1 _))).mono ?_
  rintro e v2 ⟨rfl,hv⟩
  have B2:=hide (bl_tr (uh B1 _) hv)
  have x2:=(uh BN _ (uh B2)).cell
  clear hv C2
  cases MT
  ·have HE:Hid (false = R):=hide (by rw [uh HR]; rfl)
   go_wp2_with fail
   go_ret
   exact ⟨ret_bool (uh HE),bl_tr (al1p _ _) (uh B2)⟩
  ·have HE:Hid (ZR = R):=hide (by rw [uh HR]; rfl)
   go_wp2_with fail
   refine (uh C3 _).mono ?_
   rintro e v3 ⟨rfl,hv⟩
   have B3:=hide (bl_tr (uh B2) hv)
   clear hv C3
   go_wp2_with fail
   refine (uh C4 _).mono ?_
   rintro e v4 ⟨rfl,hv⟩
   have B4:=hide (bl_tr (uh B3) hv)
   clear hv C4
   go_wp2_with fail
   go_ret
   exact ⟨ret_bool (uh HE),bl_tr (al1p _ _) (uh B4)⟩
 ·have t4:(kd == 4) = false:=by simp [h4]
  rw [if_neg h4] at HR
  generalize kindB kd = KB at C1 HR
  clear h4 C2
  go_enter Tryz.func120,Tryz.ntmps120
  go_wp2_with fail
  refine (uh C1 _).mono ?_
  rintro e v2 ⟨rfl,hv⟩
  have B2:=hide (fun o => bl_tr hv (al1p v2 o))
  have x2:=fun o => (Box.alloc (uh BN _ hv) o).cell
  clear hv C1
  cases KB
  ·have HE:Hid (false = R):=hide (by rw [uh HR]; rfl)
   go_wp2_with fail
   go_ret
   exact ⟨ret_bool (uh HE),bl_tr (al1p _ _) (uh B2 _)⟩
  ·have HE:Hid (ZR = R):=hide (by rw [uh HR]; rfl)
   go_wp2_with fail
   refine (uh C3 _).mono ?_
   rintro e v3 ⟨rfl,hv⟩
   have B3:=hide (bl_tr (uh B2 _) hv)
   clear hv C3
   go_wp2_with fail
   refine (uh C4 _).mono ?_
   rintro e v4 ⟨rfl,hv⟩
   have B4:=hide (bl_tr (uh B3) hv)
   clear hv C4
   go_wp2_with fail
   go_ret
   exact ⟨ret_bool (uh HE),bl_tr (al1p _ _) (uh B4)⟩
theorem cattrMuch_any (a:AtA) {B:Nat} (w:World) (h:AtIn B w a) :
  Calls Tryz.prog 130 #[.agg (atCells a).toArray] w fun e w' => e = .returned (.bool (muchA a.d)) ∧ Below w.heap.size w w':=by
 obtain ⟨nm,kd,f,i,s,⟨ty,ds,fs,is,bs⟩,⟨pd,cd,pf,cf,pi,ci,pb,cb⟩,fl,qf,cf',li,qi,ci'⟩:=a
 have C1:=hide (fun v => cnameMuch_any nm v)
 have C2:=hide (fun v (hv:Below w.heap.size w v) => cdimsMuch_any pd cd ds v (h.2.2.2.2.2.1.1.2.1.below hv))
 have hl:=str_len s
 obtain ⟨R,hR⟩:∃ R,muchA (AtA.d ⟨nm,kd,f,i,s,(ty,ds,fs,is,bs),⟨pd,cd,pf,cf,pi,ci,pb,cb⟩,fl,qf,cf',li,qi,ci'⟩) = R:=⟨_,rfl⟩
 have HR:Hid (R = (muchN nm || (decide ((4096:Int) < s.length) || (muchD ds || (decide ((4096:Int) < fl.length) || decide ((4096:Int) < li.length)))))):=hide (by rw [← hR]; rfl)
 rw [hR]
 clear hR h
 generalize muchN nm = N at C1 HR
 generalize muchD ds = D at C2 HR
 unfold strV at C1
 unfold atCells tenCells strV
 simp only [List.cons_append,List.nil_append]
 go_enter Tryz.func130,Tryz.ntmps130
 go_wp2_with fail
 refine (uh C1 _).mono ?_
 rintro e v ⟨rfl,hv⟩
 replace hv:=hv.symm
 subst hv
 clear C1
 cases N
 rotate_left
 ·have HE:Hid (true = R):=hide (by rw [uh HR]; rfl)
  go_wp2_with fail
  go_ret
  exact ⟨ret_bool (uh HE),al1p _ _⟩
 by_cases hs:(4096:Int) < s.length
 ·have ts:(4096:Int) < ((strOfNums s).size:Int):=by rw [hl]; exact hs
  have HE:Hid (true = R):=hide (by rw [uh HR]; simp [hs])
  clear hs hl
  go_wp2_with fail
  go_ret
  exact ⟨ret_bool (uh HE),al1p _ _⟩
 have ts:¬ (4096:Int) < ((strOfNums s).size:Int):=by rw [hl]; exact hs
 have HR2:Hid (R = (D || (decide ((4096:Int) < fl.length) || decide ((4096:Int) < li.length)))):=hide (by rw [uh HR]; simp [hs])
 have HE0:Hid (D = false → (decide ((4096:Int) < ((strOfNums s).size:Int)) || decide ((4096:Int) < fl.length) || decide ((4096:Int) < li.length)) = R):=hide (fun hd => by rw [uh HR2,hd,decide_eq_false ts]; simp)
 clear HR hs hl
 go_wp2_with fail
 refine (uh C2 _ (al1p _ _)).mono ?_
 rintro e v ⟨rfl,hv⟩
 replace hv:=hv.symm
 subst hv
 clear C2
 cases D
 rotate_left
 ·have HE:Hid (true = R):=hide (by rw [uh HR2]; rfl)
  go_wp2_with fail
  go_ret
  exact ⟨ret_bool (uh HE),al1p _ _⟩
 have HE:=hide (uh HE0 rfl)
 by_cases hf:(4096:Int) < fl.length
 ·have HE1:Hid (true = R):=hide (by rw [← uh HE]; simp [hf])
  clear HE0 HR2 HE
  go_wp2_with fail
  go_ret
  exact ⟨ret_bool (uh HE1),al1p _ _⟩
 clear HE0 HR2
 go_wp2_with fail
 go_ret
 exact ⟨ret_bool (uh HE),al1p _ _⟩
theorem cinitMuch_any (a:InA) {B:Nat} (w:World) (h:InIn B w a) :
  Calls Tryz.prog 98 #[.agg (inCells a).toArray] w fun e w' => e = .returned (.bool (muchI a.d)) ∧ Below w.heap.size w w':=by
 obtain ⟨nm,⟨ty,ds,fs,is,bs⟩,⟨pd,cd,pf,cf,pi,ci,pb,cb⟩⟩:=a
 have C1:=hide (fun v => cnameMuch_any nm v)
 have C2:=hide (fun v (hv:Below w.heap.size w v) => cdimsMuch_any pd cd ds v (h.2.1.2.1.below hv))
 obtain ⟨R,hR⟩:∃ R,(muchN nm || muchD ds) = R:=⟨_,rfl⟩
 rw [show muchI (InA.d (⟨nm,⟨ty,ds,fs,is,bs⟩,⟨pd,cd,pf,cf,pi,ci,pb,cb⟩⟩:InA)) = R from hR]
 have HR:=hide hR
 clear hR h
 generalize muchN nm = N at C1 HR
 generalize muchD ds = D at C2 HR
 unfold strV at C1
 unfold inCells tenCells strV
 go_enter Tryz.func98,Tryz.ntmps98
 go_wp2_with fail
 refine (uh C1 _).mono ?_
 rintro e v ⟨rfl,hv⟩
 replace hv:=hv.symm
 subst hv
 clear C1
 cases N
 rotate_left
 ·have HE:Hid (true = R):=hide (by rw [← uh HR]; rfl)
  go_wp2_with fail
  go_ret
  exact ⟨ret_bool (uh HE),al1p _ _⟩
 have HE:Hid (D = R):=hide (by rw [← uh HR]; rfl)
 go_wp2_with fail
 refine (uh C2 _ (al1p _ _)).mono ?_
 rintro e v ⟨rfl,hv⟩
 replace hv:=hv.symm
 subst hv
 clear C2
 go_wp2_with fail
 go_ret
 exact ⟨ret_bool (uh HE),al1p _ _⟩
theorem cvalMuch_any (a:VaA) {B:Nat} (w:World) (h:VaIn B w a) :
  Calls Tryz.prog 100 #[.agg (vaCells a).toArray] w fun e w' => e = .returned (.bool (muchV a.d)) ∧ Below w.heap.size w w':=by
 obtain ⟨nm,ty,ds,pd,cd⟩:=a
 have C1:=hide (fun v => cnameMuch_any nm v)
 have C2:=hide (fun v (hv:Below w.heap.size w v) => cdimsMuch_any pd cd ds v (h.2.2.1.below hv))
 obtain ⟨R,hR⟩:∃ R,(muchN nm || muchD ds) = R:=⟨_,rfl⟩
 rw [show muchV (VaA.d (⟨nm,ty,ds,pd,cd⟩:VaA)) = R from hR]
 have HR:=hide hR
 clear hR h
 generalize muchN nm = N at C1 HR
 generalize muchD ds = D at C2 HR
 unfold strV at C1
 unfold vaCells strV
 go_enter Tryz.func100,Tryz.ntmps100
 go_wp2_with fail
 refine (uh C1 _).mono ?_
 rintro e v ⟨rfl,hv⟩
 replace hv:=hv.symm
 subst hv
 clear C1
 cases N
 rotate_left
 ·have HE:Hid (true = R):=hide (by rw [← uh HR]; rfl)
  go_wp2_with fail
  go_ret
  exact ⟨ret_bool (uh HE),al1p _ _⟩
 have HE:Hid (D = R):=hide (by rw [← uh HR]; rfl)
 go_wp2_with fail
 refine (uh C2 _ (al1p _ _)).mono ?_
 rintro e v ⟨rfl,hv⟩
 replace hv:=hv.symm
 subst hv
 clear C2
 go_wp2_with fail
 go_ret
 exact ⟨ret_bool (uh HE),al1p _ _⟩
theorem cinitMay_any (a:InA) {B:Nat} (w:World) (h:InIn B w a) (hs:TenSm a.T) :
  Calls Tryz.prog 90 #[.agg (inCells a).toArray] w fun e w' => e = .returned (.bool (mayT a.T)) ∧ Below w.heap.size w w':=by
 have C2:=hide (fun v (hv:Below w.heap.size w v) => ctenMay_any a.T a.A v (h.2.1.below hv) hs)
 obtain ⟨nm,⟨ty,ds,fs,is,bs⟩,⟨pd,cd,pf,cf,pi,ci,pb,cb⟩⟩:=a
 simp only at C2 ⊢
 clear h hs
 generalize mayT (ty,ds,fs,is,bs) = D at C2 ⊢
 unfold tenV tenCells at C2
 unfold inCells tenCells strV
 simp only at C2 ⊢
 go_enter Tryz.func90,Tryz.ntmps90
 go_wp2_with fail
 refine (uh C2 _ (al1p _ _)).mono ?_
 rintro e v ⟨rfl,hv⟩
 have HB:=hide (bl_tr (al1p _ _) hv)
 clear hv
 go_wp2_with fail
 go_ret
 exact ⟨rfl,uh HB⟩
end Go.Proofs.YtbmmcbagdomonaaGreat
