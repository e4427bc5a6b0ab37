import Derived.Test.YtmdlaahdgjegcaaGreatV08
import Derived.Test.YtmdlaahdgjegcaaGreatV12
import Derived.Test.YtmdlaahdgjegcaaGreatV16
import Derived.Test.YtmdlaahdgjegcaaGreatV17
set_option maxRecDepth 100000
set_option maxHeartbeats 8000000
namespace Go.Proofs.YtmdlaahdgjegcaaGreat
open Go.RowKit
set_option linter.unusedVariables false
theorem czero_any (a:AtA) (w:World) (h:TenSm a.T):Calls Tryz.prog 201 #[.agg (atCells a).toArray] w fun e w' => e = .returned (.bool (zeroA a)) ∧ Below w.heap.size w w':=by
 by_cases h0:a.T.1 = 0
 ·by_cases h1:a.T.2.1.length = 0
  ·exact czero_3 a w h h0 h1
  ·exact czero_2 a w h h0 h1
 ·exact czero_1 a w h h0
theorem rest_sm {a:AtA} (h:TenSm a.T):TenSm (restA a).T:=by
 unfold restA
 split
 ·exact h
 ·split
  ·exact h
  ·split
   ·exact h
   ·split
    ·exact ⟨by simp [noTen],by simp [noTen],by simp [noTen],by simp [noTen]⟩
    ·split
     ·exact h
     ·split
      ·exact h
      ·exact h
theorem cattrMay_any (a:AtA) {B:Nat} (w:World) (h:AtIn B w a) (hs:TenSm a.T) :
  Calls Tryz.prog 136 #[.agg (atCells a).toArray] w fun e w' => e = .returned (.bool (mayA a.d)) ∧ Below w.heap.size w w':=by
 have C1:=hide (fun v => ckept_any a v)
 have C2:=hide (fun v (hv:Below w.heap.size w v) => ctenMay_any a.T a.A v (h.2.2.2.2.2.1.1.below hv) hs)
 have C3:=hide (fun v => cothers_any a v)
 have C4:=hide (fun v => czero_any (restA a) v (rest_sm hs))
 have HZ:=hide (zero_rest a)
 obtain ⟨R,hR⟩:∃ R,mayA a.d = R:=⟨_,rfl⟩
 have HR:Hid (R = ((if a.kd = 4 then mayT a.T else kindB a.kd) && zeroA (restA a))):=hide (by rw [← hR,uh HZ]; rfl)
 rw [hR]
 clear hR HZ h hs
 obtain ⟨ZR,hZ⟩:∃ z,zeroA (restA a) = z:=⟨_,rfl⟩
 rw [hZ] at HR C4
 clear hZ
 generalize restA a = r at C3 C4
 generalize keptA a = kp at C1
 generalize mayT a.T = MT at C2 HR
 obtain ⟨nm,kd,f,i,s,⟨ty,ds,fs,is,bs⟩,⟨pd,cd,pf,cf,pi,ci,pb,cb⟩,fl,qf,cf',li,qi,ci'⟩:=a
 simp only at C1 C2 C3 C4 HR
 unfold atCells tenCells strV at C1 C3 C4 ⊢
 unfold tenV tenCells at C2
 simp only [List.cons_append,List.nil_append] at C1 C2 C3 C4 ⊢
 have BN:Hid (∀ v,Below (w.alloc (Obj.cells #[.string (strOfNums nm),.int .i64 kd,.int .u32 f,.int .i64 i,.string (strOfNums s),.int .i64 ty,.slice pd ds.length cd,.slice pf fs.length cf,.slice pi is.length ci,.slice pb bs.length cb,.slice qf fl.length cf',.slice qi li.length ci'] 86)).heap.size (w.alloc (Obj.cells #[.string (strOfNums nm),.int .i64 kd,.int .u32 f,.int .i64 i,.string (strOfNums s),.int .i64 ty,.slice pd ds.length cd,.slice pf fs.length cf,.slice pi is.length ci,.slice pb bs.length cb,.slice qf fl.length cf',.slice qi li.length ci'] 86)) v → Box v w.heap.size #[.string (strOfNums nm),.int .i64 kd,.int .u32 f,.int .i64 i,.string (strOfNums s),.int .i64 ty,.slice pd ds.length cd,.slice pf fs.length cf,.slice pi is.length ci,.slice pb bs.length cb,.slice qf fl.length cf',.slice qi li.length ci'] 86):=hide (fun v hv => Box.below (Box.new w _ _) hv)
 by_cases h4:kd = 4
 ·have t4:(kd == 4) = true:=by simp [h4]
  rw [if_pos h4] at HR
  generalize kindB kd = KB at C1
  clear h4
  go_enter Tryz.func136,Tryz.ntmps136
  go_wp2_with fail
  refine (uh C1 _).mono ?_
  rintro e v1 ⟨rfl,hv⟩
  have B1:=hide (fun o => bl_tr hv (al1p v1 o))
  have x1:=fun o => (Box.alloc (uh BN _ hv) o).cell
  clear hv C1
  go_wp2_with fail
  refine (uh C2 _ (bl_tr (al1p _ _) (uh B1 _))).mono ?_
  rintro e v2 ⟨rfl,hv⟩
  have B2:=hide (bl_tr (uh B1 _) hv)
  have x2:=(uh BN _ (uh B2)).cell
  clear hv C2
  cases MT
  ·have HE:Hid (false = R):=hide (by rw [uh HR]; rfl)
   go_wp2_with fail
   go_ret
   exact ⟨ret_bool (uh HE),bl_tr (al1p _ _) (uh B2)⟩
  ·have HE:Hid (ZR = R):=hide (by rw [uh HR]; rfl)
   go_wp2_with fail
   refine (uh C3 _).mono ?_
   rintro e v3 ⟨rfl,hv⟩
   have B3:=hide (bl_tr (uh B2) hv)
   clear hv C3
   go_wp2_with fail
   refine (uh C4 _).mono ?_
   rintro e v4 ⟨rfl,hv⟩
   have B4:=hide (bl_tr (uh B3) hv)
   clear hv C4
   go_wp2_with fail
   go_ret
   exact ⟨ret_bool (uh HE),bl_tr (al1p _ _) (uh B4)⟩
 ·have t4:(kd == 4) = false:=by simp [h4]
  rw [if_neg h4] at HR
  generalize kindB kd = KB at C1 HR
  clear h4 C2
  go_enter Tryz.func136,Tryz.ntmps136
  go_wp2_with fail
  refine (uh C1 _).mono ?_
  rintro e v2 ⟨rfl,hv⟩
  have B2:=hide (fun o => bl_tr hv (al1p v2 o))
  have x2:=fun o => (Box.alloc (uh BN _ hv) o).cell
  clear hv C1
  cases KB
  ·have HE:Hid (false = R):=hide (by rw [uh HR]; rfl)
   go_wp2_with fail
   go_ret
   exact ⟨ret_bool (uh HE),bl_tr (al1p _ _) (uh B2 _)⟩
  ·have HE:Hid (ZR = R):=hide (by rw [uh HR]; rfl)
   go_wp2_with fail
   refine (uh C3 _).mono ?_
   rintro e v3 ⟨rfl,hv⟩
   have B3:=hide (bl_tr (uh B2 _) hv)
   clear hv C3
   go_wp2_with fail
   refine (uh C4 _).mono ?_
   rintro e v4 ⟨rfl,hv⟩
   have B4:=hide (bl_tr (uh B3) hv)
   clear hv C4
   go_wp2_with fail
   go_ret
   exact ⟨ret_bool (uh HE),bl_tr (al1p _ _) (uh B4)⟩
theorem cattrMuch_any (a:AtA) {B:Nat} (w:World) (h:AtIn B w a) :
  Calls Tryz.prog 145 #[.agg (atCells a).toArray] w fun e w' => e = .returned (.bool (muchA a.d)) ∧ Below w.heap.size w w':=by
 obtain ⟨nm,kd,f,i,s,⟨ty,ds,fs,is,bs⟩,⟨pd,cd,pf,cf,pi,ci,pb,cb⟩,fl,qf,cf',li,qi,ci'⟩:=a
 have C1:=hide (fun v => cnameMuch_any nm v)
 have C2:=hide (fun v (hv:Below w.heap.size w v) => cdimsMuch_any pd cd ds v (h.2.2.2.2.2.1.1.2.1.below hv))
 have hl:=str_len s
 obtain ⟨R,hR⟩:∃ R,muchA (AtA.d ⟨nm,kd,f,i,s,(ty,ds,fs,is,bs),⟨pd,cd,pf,cf,pi,ci,pb,cb⟩,fl,qf,cf',li,qi,ci'⟩) = R:=⟨_,rfl⟩
 have HR:Hid (R = (muchN nm || (decide ((4096:Int) < s.length) || (muchD ds || (decide ((4096:Int) < fl.length) || decide ((4096:Int) < li.length)))))):=hide (by rw [← hR]; rfl)
 rw [hR]
 clear hR h
 generalize muchN nm = N at C1 HR
 generalize muchD ds = D at C2 HR
 unfold strV at C1
 unfold atCells tenCells strV
 simp only [List.cons_append,List.nil_append]
 go_enter Tryz.func145,Tryz.ntmps145
 go_wp2_with fail
 refine (uh C1 _).mono ?_
 rintro e v ⟨rfl,hv⟩
 replace hv:=hv.symm
 subst hv
 clear C1
 cases N
 rotate_left
 ·have HE:Hid (true = R):=hide (by rw [uh HR]; rfl)
  go_wp2_with fail
  go_ret
  exact ⟨ret_bool (uh HE),al1p _ _⟩
 by_cases hs:(4096:Int) < s.length
 ·have ts:(4096:Int) < ((strOfNums s).size:Int):=by rw [hl]; exact hs
  have HE:Hid (true = R):=hide (by rw [uh HR]; simp [hs])
  clear hs hl
  go_wp2_with fail
  go_ret
  exact ⟨ret_bool (uh HE),al1p _ _⟩
 have ts:¬ (4096:Int) < ((strOfNums s).size:Int):=by rw [hl]; exact hs
 have HR2:Hid (R = (D || (decide ((4096:Int) < fl.length) || decide ((4096:Int) < li.length)))):=hide (by rw [uh HR]; simp [hs])
 have HE0:Hid (D = false → (decide ((4096:Int) < ((strOfNums s).size:Int)) || decide ((4096:Int) < fl.length) || decide ((4096:Int) < li.length)) = R):=hide (fun hd => by rw [uh HR2,hd,decide_eq_false ts]; simp)
 clear HR hs hl
 go_wp2_with fail
 refine (uh C2 _ (al1p _ _)).mono ?_
 rintro e v ⟨rfl,hv⟩
 replace hv:=hv.symm
 subst hv
 clear C2
 cases D
 rotate_left
 ·have HE:Hid (true = R):=hide (by rw [uh HR2]; rfl)
  go_wp2_with fail
  go_ret
  exact ⟨ret_bool (uh HE),al1p _ _⟩
 have HE:=hide (uh HE0 rfl)
 by_cases hf:(4096:Int) < fl.length
 ·have HE1:Hid (true = R):=hide (by rw [← uh HE]; simp [hf])
  clear HE0 HR2 HE
  go_wp2_with fail
  go_ret
  exact ⟨ret_bool (uh HE1),al1p _ _⟩
 clear HE0 HR2
 go_wp2_with fail
 go_ret
 exact ⟨ret_bool (uh HE),al1p _ _⟩
theorem cinitMuch_any (a:InA) {B:Nat} (w:World) (h:InIn B w a) :
  Calls Tryz.prog 91 #[.agg (inCells a).toArray] w fun e w' => e = .returned (.bool (muchI a.d)) ∧ Below w.heap.size w w':=by
 obtain ⟨nm,⟨ty,ds,fs,is,bs⟩,⟨pd,cd,pf,cf,pi,ci,pb,cb⟩⟩:=a
 have C1:=hide (fun v => cnameMuch_any nm v)
 have C2:=hide (fun v (hv:Below w.heap.size w v) => cdimsMuch_any pd cd ds v (h.2.1.2.1.below hv))
 obtain ⟨R,hR⟩:∃ R,(muchN nm || muchD ds) = R:=⟨_,rfl⟩
 rw [show muchI (InA.d (⟨nm,⟨ty,ds,fs,is,bs⟩,⟨pd,cd,pf,cf,pi,ci,pb,cb⟩⟩:InA)) = R from hR]
 have HR:=hide hR
 clear hR h
 generalize muchN nm = N at C1 HR
 generalize muchD ds = D at C2 HR
 unfold strV at C1
 unfold inCells tenCells strV
 go_enter Tryz.func91,Tryz.ntmps91
 go_wp2_with fail
 refine (uh C1 _).mono ?_
 rintro e v ⟨rfl,hv⟩
 replace hv:=hv.symm
 subst hv
 clear C1
 cases N
 rotate_left
 ·have HE:Hid (true = R):=hide (by rw [← uh HR]; rfl)
  go_wp2_with fail
  go_ret
  exact ⟨ret_bool (uh HE),al1p _ _⟩
 have HE:Hid (D = R):=hide (by rw [← uh HR]; rfl)
 go_wp2_with fail
 refine (uh C2 _ (al1p _ _)).mono ?_
 rintro e v ⟨rfl,hv⟩
 replace hv:=hv.symm
 subst hv
 clear C2
 go_wp2_with fail
 go_ret
 exact ⟨ret_bool (uh HE),al1p _ _⟩
theorem cvalMuch_any (a:VaA) {B:Nat} (w:World) (h:VaIn B w a) :
  Calls Tryz.prog 93 #[.agg (vaCells a).toArray] w fun e w' => e = .returned (.bool (muchV a.d)) ∧ Below w.heap.size w w':=by
 obtain ⟨nm,ty,ds,pd,cd⟩:=a
 have C1:=hide (fun v => cnameMuch_any nm v)
 have C2:=hide (fun v (hv:Below w.heap.size w v) => cdimsMuch_any pd cd ds v (h.2.2.1.below hv))
 obtain ⟨R,hR⟩:∃ R,(muchN nm || muchD ds) = R:=⟨_,rfl⟩
 rw [show muchV (VaA.d (⟨nm,ty,ds,pd,cd⟩:VaA)) = R from hR]
 have HR:=hide hR
 clear hR h
 generalize muchN nm = N at C1 HR
 generalize muchD ds = D at C2 HR
 unfold strV at C1
 unfold vaCells strV
 go_enter Tryz.func93,Tryz.ntmps93
 go_wp2_with fail
 refine (uh C1 _).mono ?_
 rintro e v ⟨rfl,hv⟩
 replace hv:=hv.symm
 subst hv
 clear C1
 cases N
 rotate_left
 ·have HE:Hid (true = R):=hide (by rw [← uh HR]; rfl)
  go_wp2_with fail
  go_ret
  exact ⟨ret_bool (uh HE),al1p _ _⟩
 have HE:Hid (D = R):=hide (by rw [← uh HR]; rfl)
 go_wp2_with fail
 refine (uh C2 _ (al1p _ _)).mono ?_
 rintro e v ⟨rfl,hv⟩
 replace hv:=hv.symm
 subst hv
 clear C2
 go_wp2_with fail
 go_ret
 exact ⟨ret_bool (uh HE),al1p _ _⟩
theorem cinitMay_any (a:InA) {B:Nat} (w:World) (h:InIn B w a) (hs:TenSm a.T) :
  Calls Tryz.prog 83 #[.agg (inCells a).toArray] w fun e w' => e = .returned (.bool (mayT a.T)) ∧ Below w.heap.size w w':=by
 have C2:=hide (fun v (hv:Below w.heap.size w v) => ctenMay_any a.T a.A v (h.2.1.below hv) hs)
 obtain ⟨nm,⟨ty,ds,fs,is,bs⟩,⟨pd,cd,pf,cf,pi,ci,pb,cb⟩⟩:=a
 simp only at C2 ⊢
 clear h hs
 generalize mayT (ty,ds,fs,is,bs) = D at C2 ⊢
 unfold tenV tenCells at C2
 unfold inCells tenCells strV
 simp only at C2 ⊢
 go_enter Tryz.func83,Tryz.ntmps83
 go_wp2_with fail
 refine (uh C2 _ (al1p _ _)).mono ?_
 rintro e v ⟨rfl,hv⟩
 have HB:=hide (bl_tr (al1p _ _) hv)
 clear hv
 go_wp2_with fail
 go_ret
 exact ⟨rfl,uh HB⟩
theorem cidxS_any (p:Option Addr) (c:Nat) (l:List Str) (w:World) (h:Ls strV w p c l) :
  Calls Tryz.prog 203 #[.slice p l.length c,.func (.func 87) #[] #[]] w fun e w' => (∃ r:Int,e = .returned (.int .i64 r) ∧ decide (0 ≤ r) = l.any muchN) ∧ w' = w:=by
 have A1:=hide h
 have nl:=h.len
 clear h
 go_enter Tryz.func203,Tryz.ntmps203
 go_wp2_with fail
 go_loop [8] (fun iv => ∃ n:Nat,iv = .int .i64 n ∧ n ≤ l.length ∧ Hid ((l.take n).any muchN = false)) (fun iv => l.length - (intOf iv).toNat)
 case atStart => exact ⟨0,rfl,by omega,hide rfl⟩
 case round =>
  obtain ⟨n,rfl,hn,HN⟩:=hrel
  by_cases hlt:n < l.length
  ·have hi:(n:Int) < (l.length:Int):=by omega
   obtain ⟨b,o,rfl,hb,hc⟩:=(uh A1).lies (by omega)
   have k1:w.cell? ⟨b,o + n,none⟩ = some (strV (l.getD n default)):=hc n hlt
   have HX:=hide (cnameMuch_any (l.getD n default) w)
   have HT:=hide (any_take7 muchN default l n hlt)
   have HM:=hide (any_mem7 (P:=muchN) (z:=default) hlt)
   generalize muchN (l.getD n default) = D at HX HT HM
   generalize l.getD n default = a at k1 HX
   unfold strV at k1 HX
   clear hc
   cases D
   ·have HN2:Hid ((l.take (n + 1)).any muchN = false):=hide (by rw [uh HT,uh HN]; rfl)
    clear HT HM HN
    go_wp2_with fail
    refine (uh HX).mono ?_
    rintro e w1 ⟨rfl,hv⟩
    replace hv:=hv.symm
    subst hv
    go_wp2_with fail
    go_round
    case rel => exact ⟨n + 1,by go_num,by omega,HN2⟩
    case measure => simp [intOf]; omega
   ·have HE:=hide (uh HM rfl)
    clear HT HM HN
    go_wp2_with fail
    refine (uh HX).mono ?_
    rintro e w1 ⟨rfl,hv⟩
    replace hv:=hv.symm
    subst hv
    go_wp2_with fail
    go_ret
    exact ⟨⟨n,rfl,by rw [uh HE]; simp⟩,rfl⟩
  ·have hi:¬ (n:Int) < (l.length:Int):=by omega
   have HE:Hid (l.any muchN = false):=hide (by have:=uh HN; rw [List.take_of_length_le (by omega)] at this; exact this)
   clear HN
   go_wp2_with fail
   go_ret
   exact ⟨⟨-1,rfl,by rw [uh HE]; rfl⟩,rfl⟩
theorem ccontS_any (p:Option Addr) (c:Nat) (l:List Str) (w:World) (h:Ls strV w p c l) :
  Calls Tryz.prog 143 #[.slice p l.length c,.func (.func 87) #[] #[]] w fun e w' => e = .returned (.bool (l.any muchN)) ∧ w' = w:=by
 have IX:=hide (cidxS_any p c l w h)
 generalize l.any muchN = D at IX ⊢
 clear h
 go_enter Tryz.func143,Tryz.ntmps143
 go_wp2_with fail
 refine (uh IX).mono ?_
 rintro e v ⟨⟨r,rfl,hr⟩,rfl⟩
 have HR:=hide hr
 clear hr
 go_wp2_with fail
 go_ret
 exact ⟨ret_bool (uh HR),rfl⟩
theorem tenTS_in7:∀ t ∈ tenTS,t ∈ modelTS:=by decide
theorem nodeTS_in7:∀ t ∈ nodeTS,t ∈ modelTS:=by decide
def NoLt (a:NoA):Prop:=∀ x ∈ a.at',TenSm x.T
theorem cnodeMay_any (a:NoA) {B:Nat} (w:World) (h:NoIn B w a) (hs:NoLt a) :
  Calls Tryz.prog 81 #[.agg (noCells a).toArray] w fun e w' => e = .returned (.bool (mayNo a.d)) ∧ Below w.heap.size w w':=by
 have C1:=hide (fun v (hv:Below w.heap.size w v) => ceveryAttr_any 136 (ent_of Tryz.func136 (by kernel_rfl) rfl) #[] (fun x => mayA x.d) a.qa a.ca a.at' v (h.2.2.2.2.2.1.below hv) (fun u hu x hx => cattrMay_any x u ((h.2.2.2.2.1 x hx).kept tenTS_in7 (Kept.below (bl_tr hv hu))) (hs x hx)))
 obtain ⟨R,hR⟩:∃ R,mayNo a.d = R:=⟨_,rfl⟩
 have HR:Hid (R = (!decide (a.op = []) && a.at'.all (fun x => mayA x.d))):=hide (by rw [← hR]; unfold mayNo NoA.d; simp only [List.all_map]; rfl)
 rw [hR]
 clear hR h hs
 obtain ⟨op,nm,ins,qi,ci,outs,qo,co,at',qa,ca⟩:=a
 simp only at C1 HR
 rw [← str_isE] at HR
 generalize (at'.all fun x => mayA x.d) = D at C1 HR
 obtain ⟨S,hS⟩:∃ S,(strOfNums op).toList.isEmpty = S:=⟨_,rfl⟩
 rw [hS] at HR
 unfold noCells strV
 simp only
 have BN:Hid (∀ v,Below (w.alloc (Obj.cells #[.string (strOfNums op),.string (strOfNums nm),.slice qi ins.length ci,.slice qo outs.length co,.slice qa at'.length ca] 75)).heap.size (w.alloc (Obj.cells #[.string (strOfNums op),.string (strOfNums nm),.slice qi ins.length ci,.slice qo outs.length co,.slice qa at'.length ca] 75)) v → Box v w.heap.size #[.string (strOfNums op),.string (strOfNums nm),.slice qi ins.length ci,.slice qo outs.length co,.slice qa at'.length ca] 75):=hide (fun v hv => Box.below (Box.new w _ _) hv)
 have B0:Hid (Below (w.alloc (Obj.cells #[.string (strOfNums op),.string (strOfNums nm),.slice qi ins.length ci,.slice qo outs.length co,.slice qa at'.length ca] 75)).heap.size (w.alloc (Obj.cells #[.string (strOfNums op),.string (strOfNums nm),.slice qi ins.length ci,.slice qo outs.length co,.slice qa at'.length ca] 75)) (w.alloc (Obj.cells #[.string (strOfNums op),.string (strOfNums nm),.slice qi ins.length ci,.slice qo outs.length co,.slice qa at'.length ca] 75))):=hide (Below.refl _ _)
 cases S
 rotate_left
 ·have HE:Hid (false = R):=hide (by rw [uh HR]; rfl)
  clear HR C1
  go_enter Tryz.func81,Tryz.ntmps81
  go_wp2_with fail
  go_ret
  exact ⟨ret_bool (uh HE),al1p _ _⟩
 have HE:Hid (D = R):=hide (by rw [uh HR]; rfl)
 clear HR
 go_enter Tryz.func81,Tryz.ntmps81
 go_wp2_with fail
 refine (uh C1 _ (al1p _ _)).mono ?_
 rintro e v1 ⟨rfl,hv⟩
 have B1:=hide (bl_tr (uh B0) hv)
 clear hv
 go_wp2_with fail
 go_ret
 exact ⟨ret_bool (uh HE),bl_tr (al1p _ _) (uh B1)⟩
theorem cnodeMuch_any (a:NoA) {B:Nat} (w:World) (h:NoIn B w a) :
  Calls Tryz.prog 89 #[.agg (noCells a).toArray] w fun e w' => e = .returned (.bool (muchNo a.d)) ∧ Below w.heap.size w w':=by
 have C1:=hide (fun v => cnameMuch_any a.op v)
 have C2:=hide (fun v => cnameMuch_any a.nm v)
 have C3:=hide (fun v (hv:Below w.heap.size w v) => ccontS_any a.qi a.ci a.ins v (h.2.2.1.2.1.below hv))
 have C4:=hide (fun v (hv:Below w.heap.size w v) => ccontS_any a.qo a.co a.outs v (h.2.2.2.1.2.1.below hv))
 have C5:=hide (fun v (hv:Below w.heap.size w v) => ccontAttr_any 145 (ent_of Tryz.func145 (by kernel_rfl) rfl) #[] (fun x => muchA x.d) a.qa a.ca a.at' v (h.2.2.2.2.2.1.below hv) (fun u hu x hx => cattrMuch_any x u ((h.2.2.2.2.1 x hx).kept tenTS_in7 (Kept.below (bl_tr hv hu)))))
 obtain ⟨R,hR⟩:∃ R,muchNo a.d = R:=⟨_,rfl⟩
 have HR:Hid (R = (muchN a.op || (muchN a.nm || (decide ((64:Int) < a.ins.length) || (a.ins.any muchN || (decide ((64:Int) < a.outs.length) || (a.outs.any muchN || (decide ((64:Int) < a.at'.length) || a.at'.any (fun x => muchA x.d))))))))):=hide (by rw [← hR]; unfold muchNo NoA.d; simp only [List.any_map,List.length_map]; rfl)
 rw [hR]
 have n1:=h.2.2.1.2.1.len
 have n2:=h.2.2.2.1.2.1.len
 have n3:=h.2.2.2.2.2.1.len
 clear hR h
 obtain ⟨op,nm,ins,qi,ci,outs,qo,co,at',qa,ca⟩:=a
 simp only at C1 C2 C3 C4 C5 HR n1 n2 n3
 generalize muchN op = D1 at C1 HR
 generalize muchN nm = D2 at C2 HR
 generalize ins.any muchN = D4 at C3 HR
 generalize outs.any muchN = D6 at C4 HR
 generalize (at'.any fun x => muchA x.d) = D8 at C5 HR
 obtain ⟨D3,h3⟩:∃ S,decide ((64:Int) < ins.length) = S:=⟨_,rfl⟩
 obtain ⟨D5,h5⟩:∃ S,decide ((64:Int) < outs.length) = S:=⟨_,rfl⟩
 obtain ⟨D7,h7⟩:∃ S,decide ((64:Int) < at'.length) = S:=⟨_,rfl⟩
 rw [h3,h5,h7] at HR
 unfold strV at C1 C2
 unfold noCells strV
 simp only
 have BN:Hid (∀ v,Below (w.alloc (Obj.cells #[.string (strOfNums op),.string (strOfNums nm),.slice qi ins.length ci,.slice qo outs.length co,.slice qa at'.length ca] 75)).heap.size (w.alloc (Obj.cells #[.string (strOfNums op),.string (strOfNums nm),.slice qi ins.length ci,.slice qo outs.length co,.slice qa at'.length ca] 75)) v → Box v w.heap.size #[.string (strOfNums op),.string (strOfNums nm),.slice qi ins.length ci,.slice qo outs.length co,.slice qa at'.length ca] 75):=hide (fun v hv => Box.below (Box.new w _ _) hv)
 have B0:Hid (Below (w.alloc (Obj.cells #[.string (strOfNums op),.string (strOfNums nm),.slice qi ins.length ci,.slice qo outs.length co,.slice qa at'.length ca] 75)).heap.size (w.alloc (Obj.cells #[.string (strOfNums op),.string (strOfNums nm),.slice qi ins.length ci,.slice qo outs.length co,.slice qa at'.length ca] 75)) (w.alloc (Obj.cells #[.string (strOfNums op),.string (strOfNums nm),.slice qi ins.length ci,.slice qo outs.length co,.slice qa at'.length ca] 75))):=hide (Below.refl _ _)
 go_enter Tryz.func89,Tryz.ntmps89
 go_wp2_with fail
 refine (uh C1 _).mono ?_
 rintro e v1 ⟨rfl,hv⟩
 replace hv:=hv.symm
 subst hv
 cases D1
 rotate_left
 ·have HE:Hid (true = R):=hide (by rw [uh HR]; rfl)
  clear HR
  go_wp2_with fail
  go_ret
  exact ⟨ret_bool (uh HE),bl_tr (al1p _ _) (uh B0)⟩
 go_wp2_with fail
 refine (uh C2 _).mono ?_
 rintro e v1 ⟨rfl,hv⟩
 replace hv:=hv.symm
 subst hv
 cases D2
 rotate_left
 ·have HE:Hid (true = R):=hide (by rw [uh HR]; rfl)
  clear HR
  go_wp2_with fail
  go_ret
  exact ⟨ret_bool (uh HE),bl_tr (al1p _ _) (uh B0)⟩
 cases D3
 rotate_left
 ·have t2:(64:Int) < ins.length:=of_decide_eq_true h3
  have HE:Hid (true = R):=hide (by rw [uh HR]; rfl)
  clear HR
  go_wp2_with fail
  go_ret
  exact ⟨ret_bool (uh HE),bl_tr (al1p _ _) (uh B0)⟩
 have t2:¬ (64:Int) < ins.length:=of_decide_eq_false h3
 go_wp2_with fail
 refine (uh C3 _ (bl_tr (al1p _ _) (uh B0))).mono ?_
 rintro e v1 ⟨rfl,hv⟩
 replace hv:=hv.symm
 subst hv
 cases D4
 rotate_left
 ·have HE:Hid (true = R):=hide (by rw [uh HR]; rfl)
  clear HR
  go_wp2_with fail
  go_ret
  exact ⟨ret_bool (uh HE),bl_tr (al1p _ _) (uh B0)⟩
 cases D5
 rotate_left
 ·have t4:(64:Int) < outs.length:=of_decide_eq_true h5
  have HE:Hid (true = R):=hide (by rw [uh HR]; rfl)
  clear HR
  go_wp2_with fail
  go_ret
  exact ⟨ret_bool (uh HE),bl_tr (al1p _ _) (uh B0)⟩
 have t4:¬ (64:Int) < outs.length:=of_decide_eq_false h5
 go_wp2_with fail
 refine (uh C4 _ (bl_tr (al1p _ _) (uh B0))).mono ?_
 rintro e v1 ⟨rfl,hv⟩
 replace hv:=hv.symm
 subst hv
 cases D6
 rotate_left
 ·have HE:Hid (true = R):=hide (by rw [uh HR]; rfl)
  clear HR
  go_wp2_with fail
  go_ret
  exact ⟨ret_bool (uh HE),bl_tr (al1p _ _) (uh B0)⟩
 cases D7
 rotate_left
 ·have t6:(64:Int) < at'.length:=of_decide_eq_true h7
  have HE:Hid (true = R):=hide (by rw [uh HR]; rfl)
  clear HR
  go_wp2_with fail
  go_ret
  exact ⟨ret_bool (uh HE),bl_tr (al1p _ _) (uh B0)⟩
 have t6:¬ (64:Int) < at'.length:=of_decide_eq_false h7
 go_wp2_with fail
 refine (uh C5 _ (bl_tr (al1p _ _) (uh B0))).mono ?_
 rintro e v1 ⟨rfl,hv⟩
 have B1:=hide (bl_tr (uh B0) hv)
 have x1:=(uh BN _ (uh B1)).cell
 clear hv
 have HE:Hid (D8 = R):=hide (by rw [uh HR]; rfl)
 go_wp2_with fail
 go_ret
 exact ⟨ret_bool (uh HE),bl_tr (al1p _ _) (uh B1)⟩
def MoLt (a:MoA):Prop:=(∀ x ∈ a.nodes,NoLt x) ∧ ∀ x ∈ a.inits,TenSm x.T
theorem cmodelMay_any (a:MoA) {B:Nat} (w:World) (h:MoIn B w a) (hs:MoLt a) :
  Calls Tryz.prog 42 #[moV a] w fun e w' => e = .returned (.bool (mayM a.d)) ∧ Below w.heap.size w w':=by
 have C1:=hide (fun v (hv:Below w.heap.size w v) => ceveryNode_any 81 (ent_of Tryz.func81 (by kernel_rfl) rfl) #[] (fun x => mayNo x.d) a.qn a.cn a.nodes v (h.2.2.1.2.1.below hv) (fun u hu x hx => cnodeMay_any x u ((h.2.2.1.1 x hx).kept nodeTS_in7 (Kept.below (bl_tr hv hu))) (hs.1 x hx)))
 have C2:=hide (fun v (hv:Below w.heap.size w v) => ceveryInit_any 83 (ent_of Tryz.func83 (by kernel_rfl) rfl) #[] (fun x => mayT x.T) a.qi a.ci a.inits v (h.2.2.2.1.2.1.below hv) (fun u hu x hx => cinitMay_any x u ((h.2.2.2.1.1 x hx).kept tenTS_in7 (Kept.below (bl_tr hv hu))) (hs.2 x hx)))
 have C3:=hide (fun v (hv:Below w.heap.size w v) => ceveryValue_any 86 (ent_of Tryz.func86 (by kernel_rfl) rfl) #[] (fun x => mayV x.d) a.qp a.cp a.inp v (h.2.2.2.2.1.2.1.below hv) (fun u hu x hx => cvalMay_any x u ((h.2.2.2.2.1.1 x hx).kept (TS:=modelTS) (by decide) (Kept.below (bl_tr hv hu)))))
 have C4:=hide (fun v (hv:Below w.heap.size w v) => ceveryValue_any 86 (ent_of Tryz.func86 (by kernel_rfl) rfl) #[] (fun x => mayV x.d) a.qo a.co a.out v (h.2.2.2.2.2.2.1.below hv) (fun u hu x hx => cvalMay_any x u ((h.2.2.2.2.2.1 x hx).kept (TS:=modelTS) (by decide) (Kept.below (bl_tr hv hu)))))
 obtain ⟨R,hR⟩:∃ R,mayM a.d = R:=⟨_,rfl⟩
 have HR:Hid (R = (a.ops == 17 && (a.nodes.all (fun x => mayNo x.d) && (a.inits.all (fun x => mayT x.T) && (a.inp.all (fun x => mayV x.d) && a.out.all (fun x => mayV x.d)))))):=hide (by rw [← hR]; unfold mayM MoA.d; simp only [List.all_map]; rfl)
 rw [hR]
 clear hR h hs
 obtain ⟨ops,nm,nodes,qn,cn,inits,qi,ci,inp,qp,cp,out,qo,co⟩:=a
 simp only at C1 C2 C3 C4 HR
 generalize (nodes.all fun x => mayNo x.d) = D1 at C1 HR
 generalize (inits.all fun x => mayT x.T) = D2 at C2 HR
 generalize (inp.all fun x => mayV x.d) = D3 at C3 HR
 generalize (out.all fun x => mayV x.d) = D4 at C4 HR
 obtain ⟨D0,h0⟩:∃ S,(ops == 17) = S:=⟨_,rfl⟩
 rw [h0] at HR
 unfold moV moCells strV
 simp only
 have BN:Hid (∀ v,Below (w.alloc (Obj.cells #[.int .i64 ops,.string (strOfNums nm),.slice qn nodes.length cn,.slice qi inits.length ci,.slice qp inp.length cp,.slice qo out.length co] 29)).heap.size (w.alloc (Obj.cells #[.int .i64 ops,.string (strOfNums nm),.slice qn nodes.length cn,.slice qi inits.length ci,.slice qp inp.length cp,.slice qo out.length co] 29)) v → Box v w.heap.size #[.int .i64 ops,.string (strOfNums nm),.slice qn nodes.length cn,.slice qi inits.length ci,.slice qp inp.length cp,.slice qo out.length co] 29):=hide (fun v hv => Box.below (Box.new w _ _) hv)
 have B0:Hid (Below (w.alloc (Obj.cells #[.int .i64 ops,.string (strOfNums nm),.slice qn nodes.length cn,.slice qi inits.length ci,.slice qp inp.length cp,.slice qo out.length co] 29)).heap.size (w.alloc (Obj.cells #[.int .i64 ops,.string (strOfNums nm),.slice qn nodes.length cn,.slice qi inits.length ci,.slice qp inp.length cp,.slice qo out.length co] 29)) (w.alloc (Obj.cells #[.int .i64 ops,.string (strOfNums nm),.slice qn nodes.length cn,.slice qi inits.length ci,.slice qp inp.length cp,.slice qo out.length co] 29))):=hide (Below.refl _ _)
 cases D0
 ·have HE:Hid (false = R):=hide (by rw [uh HR]; rfl)
  clear HR
  go_enter Tryz.func42,Tryz.ntmps42
  go_wp2_with fail
  go_ret
  exact ⟨ret_bool (uh HE),al1p _ _⟩
 go_enter Tryz.func42,Tryz.ntmps42
 go_wp2_with fail
 refine (uh C1 _ (bl_tr (al1p _ _) (uh B0))).mono ?_
 rintro e v1 ⟨rfl,hv⟩
 have B1:=hide (bl_tr (uh B0) hv)
 have x1:=(uh BN _ (uh B1)).cell
 clear hv
 cases D1
 ·have HE:Hid (false = R):=hide (by rw [uh HR]; rfl)
  clear HR
  go_wp2_with fail
  go_ret
  exact ⟨ret_bool (uh HE),bl_tr (al1p _ _) (uh B1)⟩
 go_wp2_with fail
 refine (uh C2 _ (bl_tr (al1p _ _) (uh B1))).mono ?_
 rintro e v2 ⟨rfl,hv⟩
 have B2:=hide (bl_tr (uh B1) hv)
 have x2:=(uh BN _ (uh B2)).cell
 clear hv
 cases D2
 ·have HE:Hid (false = R):=hide (by rw [uh HR]; rfl)
  clear HR
  go_wp2_with fail
  go_ret
  exact ⟨ret_bool (uh HE),bl_tr (al1p _ _) (uh B2)⟩
 go_wp2_with fail
 refine (uh C3 _ (bl_tr (al1p _ _) (uh B2))).mono ?_
 rintro e v3 ⟨rfl,hv⟩
 have B3:=hide (bl_tr (uh B2) hv)
 have x3:=(uh BN _ (uh B3)).cell
 clear hv
 cases D3
 ·have HE:Hid (false = R):=hide (by rw [uh HR]; rfl)
  clear HR
  go_wp2_with fail
  go_ret
  exact ⟨ret_bool (uh HE),bl_tr (al1p _ _) (uh B3)⟩
 go_wp2_with fail
 refine (uh C4 _ (bl_tr (al1p _ _) (uh B3))).mono ?_
 rintro e v4 ⟨rfl,hv⟩
 have B4:=hide (bl_tr (uh B3) hv)
 have x4:=(uh BN _ (uh B4)).cell
 clear hv
 have HE:Hid (D4 = R):=hide (by rw [uh HR]; rfl)
 go_wp2_with fail
 go_ret
 exact ⟨ret_bool (uh HE),bl_tr (al1p _ _) (uh B4)⟩
theorem cmodelMuch_any (a:MoA) {B:Nat} (w:World) (h:MoIn B w a) :
  Calls Tryz.prog 43 #[moV a] w fun e w' => e = .returned (.bool (muchM a.d)) ∧ Below w.heap.size w w':=by
 have C0:=hide (fun v => cnameMuch_any a.nm v)
 have C1:=hide (fun v (hv:Below w.heap.size w v) => ccontNode_any 89 (ent_of Tryz.func89 (by kernel_rfl) rfl) #[] (fun x => muchNo x.d) a.qn a.cn a.nodes v (h.2.2.1.2.1.below hv) (fun u hu x hx => cnodeMuch_any x u ((h.2.2.1.1 x hx).kept nodeTS_in7 (Kept.below (bl_tr hv hu)))))
 have C2:=hide (fun v (hv:Below w.heap.size w v) => ccontInit_any 91 (ent_of Tryz.func91 (by kernel_rfl) rfl) #[] (fun x => muchI x.d) a.qi a.ci a.inits v (h.2.2.2.1.2.1.below hv) (fun u hu x hx => cinitMuch_any x u ((h.2.2.2.1.1 x hx).kept tenTS_in7 (Kept.below (bl_tr hv hu)))))
 have C3:=hide (fun v (hv:Below w.heap.size w v) => ccontValue_any 93 (ent_of Tryz.func93 (by kernel_rfl) rfl) #[] (fun x => muchV x.d) a.qp a.cp a.inp v (h.2.2.2.2.1.2.1.below hv) (fun u hu x hx => cvalMuch_any x u ((h.2.2.2.2.1.1 x hx).kept (TS:=modelTS) (by decide) (Kept.below (bl_tr hv hu)))))
 have C4:=hide (fun v (hv:Below w.heap.size w v) => ccontValue_any 93 (ent_of Tryz.func93 (by kernel_rfl) rfl) #[] (fun x => muchV x.d) a.qo a.co a.out v (h.2.2.2.2.2.2.1.below hv) (fun u hu x hx => cvalMuch_any x u ((h.2.2.2.2.2.1 x hx).kept (TS:=modelTS) (by decide) (Kept.below (bl_tr hv hu)))))
 obtain ⟨R,hR⟩:∃ R,muchM a.d = R:=⟨_,rfl⟩
 have HR:Hid (R = (muchN a.nm || (decide ((1024:Int) < a.nodes.length) || (a.nodes.any (fun x => muchNo x.d) || (decide ((1024:Int) < a.inits.length) || (a.inits.any (fun x => muchI x.d) || (decide ((64:Int) < a.inp.length) || (a.inp.any (fun x => muchV x.d) || (decide ((64:Int) < a.out.length) || a.out.any (fun x => muchV x.d)))))))))):=hide (by rw [← hR]; unfold muchM MoA.d; simp only [List.any_map,List.length_map]; rfl)
 rw [hR]
 have n1:=h.2.2.1.2.1.len
 have n2:=h.2.2.2.1.2.1.len
 have n3:=h.2.2.2.2.1.2.1.len
 have n4:=h.2.2.2.2.2.2.1.len
 clear hR h
 obtain ⟨ops,nm,nodes,qn,cn,inits,qi,ci,inp,qp,cp,out,qo,co⟩:=a
 simp only at C0 C1 C2 C3 C4 HR n1 n2 n3 n4
 generalize muchN nm = D0 at C0 HR
 generalize (nodes.any fun x => muchNo x.d) = D2 at C1 HR
 generalize (inits.any fun x => muchI x.d) = D4 at C2 HR
 generalize (inp.any fun x => muchV x.d) = D6 at C3 HR
 generalize (out.any fun x => muchV x.d) = D8 at C4 HR
 obtain ⟨D1,h1⟩:∃ S,decide ((1024:Int) < nodes.length) = S:=⟨_,rfl⟩
 obtain ⟨D3,h3⟩:∃ S,decide ((1024:Int) < inits.length) = S:=⟨_,rfl⟩
 obtain ⟨D5,h5⟩:∃ S,decide ((64:Int) < inp.length) = S:=⟨_,rfl⟩
 obtain ⟨D7,h7⟩:∃ S,decide ((64:Int) < out.length) = S:=⟨_,rfl⟩
 rw [h1,h3,h5,h7] at HR
 unfold strV at C0
 unfold moV moCells strV
 simp only
 have BN:Hid (∀ v,Below (w.alloc (Obj.cells #[.int .i64 ops,.string (strOfNums nm),.slice qn nodes.length cn,.slice qi inits.length ci,.slice qp inp.length cp,.slice qo out.length co] 29)).heap.size (w.alloc (Obj.cells #[.int .i64 ops,.string (strOfNums nm),.slice qn nodes.length cn,.slice qi inits.length ci,.slice qp inp.length cp,.slice qo out.length co] 29)) v → Box v w.heap.size #[.int .i64 ops,.string (strOfNums nm),.slice qn nodes.length cn,.slice qi inits.length ci,.slice qp inp.length cp,.slice qo out.length co] 29):=hide (fun v hv => Box.below (Box.new w _ _) hv)
 have B0:Hid (Below (w.alloc (Obj.cells #[.int .i64 ops,.string (strOfNums nm),.slice qn nodes.length cn,.slice qi inits.length ci,.slice qp inp.length cp,.slice qo out.length co] 29)).heap.size (w.alloc (Obj.cells #[.int .i64 ops,.string (strOfNums nm),.slice qn nodes.length cn,.slice qi inits.length ci,.slice qp inp.length cp,.slice qo out.length co] 29)) (w.alloc (Obj.cells #[.int .i64 ops,.string (strOfNums nm),.slice qn nodes.length cn,.slice qi inits.length ci,.slice qp inp.length cp,.slice qo out.length co] 29))):=hide (Below.refl _ _)
 go_enter Tryz.func43,Tryz.ntmps43
 go_wp2_with fail
 refine (uh C0 _).mono ?_
 rintro e v1 ⟨rfl,hv⟩
 replace hv:=hv.symm
 subst hv
 cases D0
 rotate_left
 ·have HE:Hid (true = R):=hide (by rw [uh HR]; rfl)
  clear HR
  go_wp2_with fail
  go_ret
  exact ⟨ret_bool (uh HE),bl_tr (al1p _ _) (uh B0)⟩
 cases D1
 rotate_left
 ·have t0:(1024:Int) < nodes.length:=of_decide_eq_true h1
  have HE:Hid (true = R):=hide (by rw [uh HR]; rfl)
  clear HR
  go_wp2_with fail
  go_ret
  exact ⟨ret_bool (uh HE),bl_tr (al1p _ _) (uh B0)⟩
 have t0:¬ (1024:Int) < nodes.length:=of_decide_eq_false h1
 go_wp2_with fail
 refine (uh C1 _ (bl_tr (al1p _ _) (uh B0))).mono ?_
 rintro e v1 ⟨rfl,hv⟩
 have B1:=hide (bl_tr (uh B0) hv)
 have x1:=(uh BN _ (uh B1)).cell
 clear hv
 cases D2
 rotate_left
 ·have HE:Hid (true = R):=hide (by rw [uh HR]; rfl)
  clear HR
  go_wp2_with fail
  go_ret
  exact ⟨ret_bool (uh HE),bl_tr (al1p _ _) (uh B1)⟩
 cases D3
 rotate_left
 ·have t1:(1024:Int) < inits.length:=of_decide_eq_true h3
  have HE:Hid (true = R):=hide (by rw [uh HR]; rfl)
  clear HR
  go_wp2_with fail
  go_ret
  exact ⟨ret_bool (uh HE),bl_tr (al1p _ _) (uh B1)⟩
 have t1:¬ (1024:Int) < inits.length:=of_decide_eq_false h3
 go_wp2_with fail
 refine (uh C2 _ (bl_tr (al1p _ _) (uh B1))).mono ?_
 rintro e v2 ⟨rfl,hv⟩
 have B2:=hide (bl_tr (uh B1) hv)
 have x2:=(uh BN _ (uh B2)).cell
 clear hv
 cases D4
 rotate_left
 ·have HE:Hid (true = R):=hide (by rw [uh HR]; rfl)
  clear HR
  go_wp2_with fail
  go_ret
  exact ⟨ret_bool (uh HE),bl_tr (al1p _ _) (uh B2)⟩
 cases D5
 rotate_left
 ·have t2:(64:Int) < inp.length:=of_decide_eq_true h5
  have HE:Hid (true = R):=hide (by rw [uh HR]; rfl)
  clear HR
  go_wp2_with fail
  go_ret
  exact ⟨ret_bool (uh HE),bl_tr (al1p _ _) (uh B2)⟩
 have t2:¬ (64:Int) < inp.length:=of_decide_eq_false h5
 go_wp2_with fail
 refine (uh C3 _ (bl_tr (al1p _ _) (uh B2))).mono ?_
 rintro e v3 ⟨rfl,hv⟩
 have B3:=hide (bl_tr (uh B2) hv)
 have x3:=(uh BN _ (uh B3)).cell
 clear hv
 cases D6
 rotate_left
 ·have HE:Hid (true = R):=hide (by rw [uh HR]; rfl)
  clear HR
  go_wp2_with fail
  go_ret
  exact ⟨ret_bool (uh HE),bl_tr (al1p _ _) (uh B3)⟩
 cases D7
 rotate_left
 ·have t3:(64:Int) < out.length:=of_decide_eq_true h7
  have HE:Hid (true = R):=hide (by rw [uh HR]; rfl)
  clear HR
  go_wp2_with fail
  go_ret
  exact ⟨ret_bool (uh HE),bl_tr (al1p _ _) (uh B3)⟩
 have t3:¬ (64:Int) < out.length:=of_decide_eq_false h7
 go_wp2_with fail
 refine (uh C4 _ (bl_tr (al1p _ _) (uh B3))).mono ?_
 rintro e v4 ⟨rfl,hv⟩
 have B4:=hide (bl_tr (uh B3) hv)
 have x4:=(uh BN _ (uh B4)).cell
 clear hv
 have HE:Hid (D8 = R):=hide (by rw [uh HR]; rfl)
 go_wp2_with fail
 go_ret
 exact ⟨ret_bool (uh HE),bl_tr (al1p _ _) (uh B4)⟩
theorem ccheck_any (a:MoA) {B:Nat} (w:World) (h:MoIn B w a) (hs:MoLt a) :
  Calls Tryz.prog 17 #[moV a] w fun e w' => e = .returned (.int .i64 (checkM a.d)) ∧ Below w.heap.size w w':=by
 have C1:=hide (fun v (hv:Below w.heap.size w v) => cmodelMay_any a v (h.below hv) hs)
 have C2:=hide (fun v (hv:Below w.heap.size w v) => cmodelMuch_any a v (h.below hv))
 obtain ⟨R,hR⟩:∃ R,checkM a.d = R:=⟨_,rfl⟩
 have HR:Hid (R = (if mayM a.d = false then 1 else if muchM a.d = true then 8 else 0)):=hide (by rw [← hR,check_code])
 rw [hR]
 clear hR h hs
 generalize mayM a.d = D1 at C1 HR
 generalize muchM a.d = D2 at C2 HR
 obtain ⟨ops,nm,nodes,qn,cn,inits,qi,ci,inp,qp,cp,out,qo,co⟩:=a
 unfold moV moCells strV at C1 C2 ⊢
 simp only at C1 C2 ⊢
 have BN:Hid (∀ v,Below (w.alloc (Obj.cells #[.int .i64 ops,.string (strOfNums nm),.slice qn nodes.length cn,.slice qi inits.length ci,.slice qp inp.length cp,.slice qo out.length co] 29)).heap.size (w.alloc (Obj.cells #[.int .i64 ops,.string (strOfNums nm),.slice qn nodes.length cn,.slice qi inits.length ci,.slice qp inp.length cp,.slice qo out.length co] 29)) v → Box v w.heap.size #[.int .i64 ops,.string (strOfNums nm),.slice qn nodes.length cn,.slice qi inits.length ci,.slice qp inp.length cp,.slice qo out.length co] 29):=hide (fun v hv => Box.below (Box.new w _ _) hv)
 have B0:Hid (Below (w.alloc (Obj.cells #[.int .i64 ops,.string (strOfNums nm),.slice qn nodes.length cn,.slice qi inits.length ci,.slice qp inp.length cp,.slice qo out.length co] 29)).heap.size (w.alloc (Obj.cells #[.int .i64 ops,.string (strOfNums nm),.slice qn nodes.length cn,.slice qi inits.length ci,.slice qp inp.length cp,.slice qo out.length co] 29)) (w.alloc (Obj.cells #[.int .i64 ops,.string (strOfNums nm),.slice qn nodes.length cn,.slice qi inits.length ci,.slice qp inp.length cp,.slice qo out.length co] 29))):=hide (Below.refl _ _)
 go_enter Tryz.func17,Tryz.ntmps17
 go_wp2_with fail
 refine (uh C1 _ (bl_tr (al1p _ _) (uh B0))).mono ?_
 rintro e v1 ⟨rfl,hv⟩
 have B1:=hide (bl_tr (uh B0) hv)
 have x1:=(uh BN _ (uh B1)).cell
 clear hv
 cases D1
 ·have HE:R = 1:=by rw [uh HR]; rfl
  subst HE
  clear HR C2
  go_wp2_with fail
  go_ret
  exact ⟨rfl,bl_tr (al1p _ _) (uh B1)⟩
 go_wp2_with fail
 refine (uh C2 _ (bl_tr (al1p _ _) (uh B1))).mono ?_
 rintro e v2 ⟨rfl,hv⟩
 have B2:=hide (bl_tr (uh B1) hv)
 clear hv
 cases D2
 ·have HE:R = 0:=by rw [uh HR]; rfl
  subst HE
  clear HR
  go_wp2_with fail
  go_ret
  exact ⟨rfl,bl_tr (al1p _ _) (uh B2)⟩
 have HE:R = 8:=by rw [uh HR]; rfl
 subst HE
 clear HR
 go_wp2_with fail
 go_ret
 exact ⟨rfl,bl_tr (al1p _ _) (uh B2)⟩
end Go.Proofs.YtmdlaahdgjegcaaGreat
