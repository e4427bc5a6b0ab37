import Derived.Test.YtbmmcbagdomonaaGreatV16
set_option maxRecDepth 100000
set_option maxHeartbeats 40000000
namespace Go.Proofs.YtbmmcbagdomonaaGreat
open Go.RowKit
set_option linter.unusedVariables false
theorem cidxS_any (p:Option Addr) (c:Nat) (l:List Str) (w:World) (h:Ls strV w p c l) :
  Calls Tryz.prog 154 #[.slice p l.length c,.func (.func 94) #[] #[]] w fun e w' => (∃ r:Int,e = .returned (.int .i64 r) ∧ decide (0 ≤ r) = l.any muchN) ∧ w' = w:=by
 have A1:=hide h
 have nl:=h.len
 clear h
 go_enter Tryz.func154,Tryz.ntmps154
 go_wp2_with fail
 go_loop [8] (fun iv => ∃ n:Nat,iv = .int .i64 n ∧ n ≤ l.length ∧ Hid ((l.take n).any muchN = false)) (fun iv => l.length - (intOf iv).toNat)
 case atStart => exact ⟨0,rfl,by omega,hide rfl⟩
 case round =>
  obtain ⟨n,rfl,hn,HN⟩:=hrel
  by_cases hlt:n < l.length
  ·have hi:(n:Int) < (l.length:Int):=by omega
   obtain ⟨b,o,rfl,hb,hc⟩:=(uh A1).lies (by omega)
   have k1:w.cell? ⟨b,o + n,none⟩ = some (strV (l.getD n default)):=hc n hlt
   have HX:=hide (cnameMuch_any (l.getD n default) w)
   have HT:=hide (any_take7 muchN default l n hlt)
   have HM:=hide (any_mem7 (P:=muchN) (z:=default) hlt)
   generalize muchN (l.getD n default) = D at HX HT HM
   generalize l.getD n default = a at k1 HX
   unfold strV at k1 HX
   clear hc
   cases D
   ·have HN2:Hid ((l.take (n + 1)).any muchN = false):=hide (by rw [uh HT,uh HN]; rfl)
    clear HT HM HN
    go_wp2_with fail
    refine (uh HX).mono ?_
    rintro e w1 ⟨rfl,hv⟩
    replace hv:=hv.symm
    subst hv
    go_wp2_with fail
    go_round
    case rel => exact ⟨n + 1,by go_num,by omega,HN2⟩
    case measure => simp [intOf]; omega
   ·have HE:=hide (uh HM rfl)
    clear HT HM HN
    go_wp2_with fail
    refine (uh HX).mono ?_
    rintro e w1 ⟨rfl,hv⟩
    replace hv:=hv.symm
    subst hv
    go_wp2_with fail
    go_ret
    exact ⟨⟨n,rfl,by rw [uh HE]; simp⟩,rfl⟩
  ·have hi:¬ (n:Int) < (l.length:Int):=by omega
   have HE:Hid (l.any muchN = false):=hide (by have:=uh HN; rw [List.take_of_length_le (by omega)] at this; exact this)
   clear HN
   go_wp2_with fail
   go_ret
   exact ⟨⟨-1,rfl,by rw [uh HE]; rfl⟩,rfl⟩
theorem ccontS_any (p:Option Addr) (c:Nat) (l:List Str) (w:World) (h:Ls strV w p c l) :
  Calls Tryz.prog 128 #[.slice p l.length c,.func (.func 94) #[] #[]] w fun e w' => e = .returned (.bool (l.any muchN)) ∧ w' = w:=by
 have IX:=hide (cidxS_any p c l w h)
 generalize l.any muchN = D at IX ⊢
 clear h
 go_enter Tryz.func128,Tryz.ntmps128
 go_wp2_with fail
 refine (uh IX).mono ?_
 rintro e v ⟨⟨r,rfl,hr⟩,rfl⟩
 have HR:=hide hr
 clear hr
 go_wp2_with fail
 go_ret
 exact ⟨ret_bool (uh HR),rfl⟩
theorem tenTS_in7:∀ t ∈ tenTS,t ∈ modelTS:=by decide
theorem nodeTS_in7:∀ t ∈ nodeTS,t ∈ modelTS:=by decide
def NoLt (a:NoA):Prop:=∀ x ∈ a.at',TenSm x.T
theorem cnodeMay_any (a:NoA) {B:Nat} (w:World) (h:NoIn B w a) (hs:NoLt a) :
  Calls Tryz.prog 88 #[.agg (noCells a).toArray] w fun e w' => e = .returned (.bool (mayNo a.d)) ∧ Below w.heap.size w w':=by
 have C1:=hide (fun v (hv:Below w.heap.size w v) => ceveryAttr_any 120 (ent_of Tryz.func120 (by kernel_rfl) rfl) #[] (fun x => mayA x.d) a.qa a.ca a.at' v (h.2.2.2.2.2.1.below hv) (fun u hu x hx => cattrMay_any x u ((h.2.2.2.2.1 x hx).kept tenTS_in7 (Kept.below (bl_tr hv hu))) (hs x hx)))
 obtain ⟨R,hR⟩:∃ R,mayNo a.d = R:=⟨_,rfl⟩
 have HR:Hid (R = (!decide (a.op = []) && a.at'.all (fun x => mayA x.d))):=hide (by rw [← hR]; unfold mayNo NoA.d; simp only [List.all_map]; rfl)
 rw [hR]
 clear hR h hs
 obtain ⟨op,nm,ins,qi,ci,outs,qo,co,at',qa,ca⟩:=a
 simp only at C1 HR
 rw [← str_isE] at HR
 generalize (at'.all fun x => mayA x.d) = D at C1 HR
 obtain ⟨S,hS⟩:∃ S,(strOfNums op).toList.isEmpty = S:=⟨_,rfl⟩
 rw [hS] at HR
 unfold noCells strV
 simp only
 have BN:Hid (∀ v,Below (w.alloc (Obj.cells #[.string (strOfNums op),.string (strOfNums nm),.slice qi ins.length ci,.slice qo outs.length co,.slice qa at'.length ca] 55)).heap.size (w.alloc (Obj.cells #[.string (strOfNums op),.string (strOfNums nm),.slice qi ins.length ci,.slice qo outs.length co,.slice qa at'.length ca] 55)) v → Box v w.heap.size #[.string (strOfNums op),.string (strOfNums nm),.slice qi ins.length ci,.slice qo outs.length co,.slice qa at'.length ca] 55):=hide (fun v hv => Box.below (Box.new w _ _) hv)
 have B0:Hid (Below (w.alloc (Obj.cells #[.string (strOfNums op),.string (strOfNums nm),.slice qi ins.length ci,.slice qo outs.length co,.slice qa at'.length ca] 55)).heap.size (w.alloc (Obj.cells #[.string (strOfNums op),.string (strOfNums nm),.slice qi ins.length ci,.slice qo outs.length co,.slice qa at'.length ca] 55)) (w.alloc (Obj.cells #[.string (strOfNums op),.string (strOfNums nm),.slice qi ins.length ci,.slice qo outs.length co,.slice qa at'.length ca] 55))):=hide (Below.refl _ _)
 cases S
 rotate_left
 ·have HE:Hid (false = R):=hide (by rw [uh HR]; rfl)
  clear HR C1
  go_enter Tryz.func88,Tryz.ntmps88
  go_wp2_with fail
  go_ret
  exact ⟨ret_bool (uh HE),al1p _ _⟩
 have HE:Hid (D = R):=hide (by rw [uh HR]; rfl)
 clear HR
 go_enter Tryz.func88,Tryz.ntmps88
 go_wp2_with fail
 refine (uh C1 _ (al1p _ _)).mono ?_
 rintro e v1 ⟨rfl,hv⟩
 have B1:=hide (bl_tr (uh B0) hv)
 clear hv
 go_wp2_with fail
 go_ret
 exact ⟨ret_bool (uh HE),bl_tr (al1p _ _) (uh B1)⟩
theorem cnodeMuch_any (a:NoA) {B:Nat} (w:World) (h:NoIn B w a) :
  Calls Tryz.prog 96 #[.agg (noCells a).toArray] w fun e w' => e = .returned (.bool (muchNo a.d)) ∧ Below w.heap.size w w':=by
 have C1:=hide (fun v => cnameMuch_any a.op v)
 have C2:=hide (fun v => cnameMuch_any a.nm v)
 have C3:=hide (fun v (hv:Below w.heap.size w v) => ccontS_any a.qi a.ci a.ins v (h.2.2.1.2.1.below hv))
 have C4:=hide (fun v (hv:Below w.heap.size w v) => ccontS_any a.qo a.co a.outs v (h.2.2.2.1.2.1.below hv))
 have C5:=hide (fun v (hv:Below w.heap.size w v) => ccontAttr_any 130 (ent_of Tryz.func130 (by kernel_rfl) rfl) #[] (fun x => muchA x.d) a.qa a.ca a.at' v (h.2.2.2.2.2.1.below hv) (fun u hu x hx => cattrMuch_any x u ((h.2.2.2.2.1 x hx).kept tenTS_in7 (Kept.below (bl_tr hv hu)))))
 obtain ⟨R,hR⟩:∃ R,muchNo a.d = R:=⟨_,rfl⟩
 have HR:Hid (R = (muchN a.op || (muchN a.nm || (decide ((64:Int) < a.ins.length) || (a.ins.any muchN || (decide ((64:Int) < a.outs.length) || (a.outs.any muchN || (decide ((64:Int) < a.at'.length) || a.at'.any (fun x => muchA x.d))))))))):=hide (by rw [← hR]; unfold muchNo NoA.d; simp only [List.any_map,List.length_map]; rfl)
 rw [hR]
 have n1:=h.2.2.1.2.1.len
 have n2:=h.2.2.2.1.2.1.len
 have n3:=h.2.2.2.2.2.1.len
 clear hR h
 obtain ⟨op,nm,ins,qi,ci,outs,qo,co,at',qa,ca⟩:=a
 simp only at C1 C2 C3 C4 C5 HR n1 n2 n3
 generalize muchN op = D1 at C1 HR
 generalize muchN nm = D2 at C2 HR
 generalize ins.any muchN = D4 at C3 HR
 generalize outs.any muchN = D6 at C4 HR
 generalize (at'.any fun x => muchA x.d) = D8 at C5 HR
 obtain ⟨D3,h3⟩:∃ S,decide ((64:Int) < ins.length) = S:=⟨_,rfl⟩
 obtain ⟨D5,h5⟩:∃ S,decide ((64:Int) < outs.length) = S:=⟨_,rfl⟩
 obtain ⟨D7,h7⟩:∃ S,decide ((64:Int) < at'.length) = S:=⟨_,rfl⟩
 rw [h3,h5,h7] at HR
 unfold strV at C1 C2
 unfold noCells strV
 simp only
 have BN:Hid (∀ v,Below (w.alloc (Obj.cells #[.string (strOfNums op),.string (strOfNums nm),.slice qi ins.length ci,.slice qo outs.length co,.slice qa at'.length ca] 55)).heap.size (w.alloc (Obj.cells #[.string (strOfNums op),.string (strOfNums nm),.slice qi ins.length ci,.slice qo outs.length co,.slice qa at'.length ca] 55)) v → Box v w.heap.size #[.string (strOfNums op),.string (strOfNums nm),.slice qi ins.length ci,.slice qo outs.length co,.slice qa at'.length ca] 55):=hide (fun v hv => Box.below (Box.new w _ _) hv)
 have B0:Hid (Below (w.alloc (Obj.cells #[.string (strOfNums op),.string (strOfNums nm),.slice qi ins.length ci,.slice qo outs.length co,.slice qa at'.length ca] 55)).heap.size (w.alloc (Obj.cells #[.string (strOfNums op),.string (strOfNums nm),.slice qi ins.length ci,.slice qo outs.length co,.slice qa at'.length ca] 55)) (w.alloc (Obj.cells #[.string (strOfNums op),.string (strOfNums nm),.slice qi ins.length ci,.slice qo outs.length co,.slice qa at'.length ca] 55))):=hide (Below.refl _ _)
 go_enter Tryz.func96,Tryz.ntmps96
 go_wp2_with fail
 refine (uh C1 _).mono ?_
 rintro e v1 ⟨rfl,hv⟩
 replace hv:=hv.symm
 subst hv
 cases D1
 rotate_left
 ·have HE:Hid (true = R):=hide (by rw [uh HR]; rfl)
  clear HR
  go_wp2_with fail
  go_ret
  exact ⟨ret_bool (uh HE),bl_tr (al1p _ _) (uh B0)⟩
 go_wp2_with fail
 refine (uh C2 _).mono ?_
 rintro e v1 ⟨rfl,hv⟩
 replace hv:=hv.symm
 subst hv
 cases D2
 rotate_left
 ·have HE:Hid (true = R):=hide (by rw [uh HR]; rfl)
  clear HR
  go_wp2_with fail
  go_ret
  exact ⟨ret_bool (uh HE),bl_tr (al1p _ _) (uh B0)⟩
 cases D3
 rotate_left
 ·have t2:(64:Int) < ins.length:=of_decide_eq_true h3
  have HE:Hid (true = R):=hide (by rw [uh HR]; rfl)
  clear HR
  go_wp2_with fail
  go_ret
  exact ⟨ret_bool (uh HE),bl_tr (al1p _ _) (uh B0)⟩
 have t2:¬ (64:Int) < ins.length:=of_decide_eq_false h3
 go_wp2_with fail
 refine (uh C3 _ (bl_tr (al1p _ _) (uh B0))).mono ?_
 rintro e v1 ⟨rfl,hv⟩
 replace hv:=hv.symm
 subst hv
 cases D4
 rotate_left
 ·have HE:Hid (true = R):=hide (by rw [uh HR]; rfl)
  clear HR
  go_wp2_with fail
  go_ret
  exact ⟨ret_bool (uh HE),bl_tr (al1p _ _) (uh B0)⟩
 cases D5
 rotate_left
 ·have t4:(64:Int) < outs.length:=of_decide_eq_true h5
  have HE:Hid (true = R):=hide (by rw [uh HR]; rfl)
  clear HR
  go_wp2_with fail
  go_ret
  exact ⟨ret_bool (uh HE),bl_tr (al1p _ _) (uh B0)⟩
 have t4:¬ (64:Int) < outs.length:=of_decide_eq_false h5
 go_wp2_with fail
 refine (uh C4 _ (bl_tr (al1p _ _) (uh B0))).mono ?_
 rintro e v1 ⟨rfl,hv⟩
 replace hv:=hv.symm
 subst hv
 cases D6
 rotate_left
 ·have HE:Hid (true = R):=hide (by rw [uh HR]; rfl)
  clear HR
  go_wp2_with fail
  go_ret
  exact ⟨ret_bool (uh HE),bl_tr (al1p _ _) (uh B0)⟩
 cases D7
 rotate_left
 ·have t6:(64:Int) < at'.length:=of_decide_eq_true h7
  have HE:Hid (true = R):=hide (by rw [uh HR]; rfl)
  clear HR
  go_wp2_with fail
  go_ret
  exact ⟨ret_bool (uh HE),bl_tr (al1p _ _) (uh B0)⟩
 have t6:¬ (64:Int) < at'.length:=of_decide_eq_false h7
 go_wp2_with fail
 refine (uh C5 _ (bl_tr (al1p _ _) (uh B0))).mono ?_
 rintro e v1 ⟨rfl,hv⟩
 have B1:=hide (bl_tr (uh B0) hv)
 have x1:=(uh BN _ (uh B1)).cell
 clear hv
 have HE:Hid (D8 = R):=hide (by rw [uh HR]; rfl)
 go_wp2_with fail
 go_ret
 exact ⟨ret_bool (uh HE),bl_tr (al1p _ _) (uh B1)⟩
def MoLt (a:MoA):Prop:=(∀ x ∈ a.nodes,NoLt x) ∧ ∀ x ∈ a.inits,TenSm x.T
theorem cmodelMay_any (a:MoA) {B:Nat} (w:World) (h:MoIn B w a) (hs:MoLt a) :
  Calls Tryz.prog 51 #[moV a] w fun e w' => e = .returned (.bool (mayM a.d)) ∧ Below w.heap.size w w':=by
 have C1:=hide (fun v (hv:Below w.heap.size w v) => ceveryNode_any 88 (ent_of Tryz.func88 (by kernel_rfl) rfl) #[] (fun x => mayNo x.d) a.qn a.cn a.nodes v (h.2.2.1.2.1.below hv) (fun u hu x hx => cnodeMay_any x u ((h.2.2.1.1 x hx).kept nodeTS_in7 (Kept.below (bl_tr hv hu))) (hs.1 x hx)))
 have C2:=hide (fun v (hv:Below w.heap.size w v) => ceveryInit_any 90 (ent_of Tryz.func90 (by kernel_rfl) rfl) #[] (fun x => mayT x.T) a.qi a.ci a.inits v (h.2.2.2.1.2.1.below hv) (fun u hu x hx => cinitMay_any x u ((h.2.2.2.1.1 x hx).kept tenTS_in7 (Kept.below (bl_tr hv hu))) (hs.2 x hx)))
 have C3:=hide (fun v (hv:Below w.heap.size w v) => ceveryValue_any 93 (ent_of Tryz.func93 (by kernel_rfl) rfl) #[] (fun x => mayV x.d) a.qp a.cp a.inp v (h.2.2.2.2.1.2.1.below hv) (fun u hu x hx => cvalMay_any x u ((h.2.2.2.2.1.1 x hx).kept (TS:=modelTS) (by decide) (Kept.below (bl_tr hv hu)))))
 have C4:=hide (fun v (hv:Below w.heap.size w v) => ceveryValue_any 93 (ent_of Tryz.func93 (by kernel_rfl) rfl) #[] (fun x => mayV x.d) a.qo a.co a.out v (h.2.2.2.2.2.2.1.below hv) (fun u hu x hx => cvalMay_any x u ((h.2.2.2.2.2.1 x hx).kept (TS:=modelTS) (by decide) (Kept.below (bl_tr hv hu)))))
 obtain ⟨R,hR⟩:∃ R,mayM a.d = R:=⟨_,rfl⟩
 have HR:Hid (R = (a.ops == 17 && (a.nodes.all (fun x => mayNo x.d) && (a.inits.all (fun x => mayT x.T) && (a.inp.all (fun x => mayV x.d) && a.out.all (fun x => mayV x.d)))))):=hide (by rw [← hR]; unfold mayM MoA.d; simp only [List.all_map]; rfl)
 rw [hR]
 clear hR h hs
 obtain ⟨ops,nm,nodes,qn,cn,inits,qi,ci,inp,qp,cp,out,qo,co⟩:=a
 simp only at C1 C2 C3 C4 HR
 generalize (nodes.all fun x => mayNo x.d) = D1 at C1 HR
 generalize (inits.all fun x => mayT x.T) = D2 at C2 HR
 generalize (inp.all fun x => mayV x.d) = D3 at C3 HR
 generalize (out.all fun x => mayV x.d) = D4 at C4 HR
 obtain ⟨D0,h0⟩:∃ S,(ops == 17) = S:=⟨_,rfl⟩
 rw [h0] at HR
 unfold moV moCells strV
 simp only
 have BN:Hid (∀ v,Below (w.alloc (Obj.cells #[.int .i64 ops,.string (strOfNums nm),.slice qn nodes.length cn,.slice qi inits.length ci,.slice qp inp.length cp,.slice qo out.length co] 26)).heap.size (w.alloc (Obj.cells #[.int .i64 ops,.string (strOfNums nm),.slice qn nodes.length cn,.slice qi inits.length ci,.slice qp inp.length cp,.slice qo out.length co] 26)) v → Box v w.heap.size #[.int .i64 ops,.string (strOfNums nm),.slice qn nodes.length cn,.slice qi inits.length ci,.slice qp inp.length cp,.slice qo out.length co] 26):=hide (fun v hv => Box.below (Box.new w _ _) hv)
 have B0:Hid (Below (w.alloc (Obj.cells #[.int .i64 ops,.string (strOfNums nm),.slice qn nodes.length cn,.slice qi inits.length ci,.slice qp inp.length cp,.slice qo out.length co] 26)).heap.size (w.alloc (Obj.cells #[.int .i64 ops,.string (strOfNums nm),.slice qn nodes.length cn,.slice qi inits.length ci,.slice qp inp.length cp,.slice qo out.length co] 26)) (w.alloc (Obj.cells #[.int .i64 ops,.string (strOfNums nm),.slice qn nodes.length cn,.slice qi inits.length ci,.slice qp inp.length cp,.slice qo out.length co] 26))):=hide (Below.refl _ _)
 cases D0
 ·have HE:Hid (false = R):=hide (by rw [uh HR]; rfl)
  clear HR
  go_enter Tryz.func51,Tryz.ntmps51
  go_wp2_with fail
  go_ret
  exact ⟨ret_bool (uh HE),al1p _ _⟩
 go_enter Tryz.func51,Tryz.ntmps51
 go_wp2_with fail
 refine (uh C1 _ (bl_tr (al1p _ _) (uh B0))).mono ?_
 rintro e v1 ⟨rfl,hv⟩
 have B1:=hide (bl_tr (uh B0) hv)
 have x1:=(uh BN _ (uh B1)).cell
 clear hv
 cases D1
 ·have HE:Hid (false = R):=hide (by rw [uh HR]; rfl)
  clear HR
  go_wp2_with fail
  go_ret
  exact ⟨ret_bool (uh HE),bl_tr (al1p _ _) (uh B1)⟩
 go_wp2_with fail
 refine (uh C2 _ (bl_tr (al1p _ _) (uh B1))).mono ?_
 rintro e v2 ⟨rfl,hv⟩
 have B2:=hide (bl_tr (uh B1) hv)
 have x2:=(uh BN _ (uh B2)).cell
 clear hv
 cases D2
 ·have HE:Hid (false = R):=hide (by rw [uh HR]; rfl)
  clear HR
  go_wp2_with fail
  go_ret
  exact ⟨ret_bool (uh HE),bl_tr (al1p _ _) (uh B2)⟩
 go_wp2_with fail
 refine (uh C3 _ (bl_tr (al1p _ _) (uh B2))).mono ?_
 rintro e v3 ⟨rfl,hv⟩
 have B3:=hide (bl_tr (uh B2) hv)
 have x3:=(uh BN _ (uh B3)).cell
 clear hv
 cases D3
 ·have HE:Hid (false = R):=hide (by rw [uh HR]; rfl)
  clear HR
  go_wp2_with fail
  go_ret
  exact ⟨ret_bool (uh HE),bl_tr (al1p _ _) (uh B3)⟩
 go_wp2_with fail
 refine (uh C4 _ (bl_tr (al1p _ _) (uh B3))).mono ?_
 rintro e v4 ⟨rfl,hv⟩
 have B4:=hide (bl_tr (uh B3) hv)
 have x4:=(uh BN _ (uh B4)).cell
 clear hv
 have HE:Hid (D4 = R):=hide (by rw [uh HR]; rfl)
 go_wp2_with fail
 go_ret
 exact ⟨ret_bool (uh HE),bl_tr (al1p _ _) (uh B4)⟩
theorem cmodelMuch_any (a:MoA) {B:Nat} (w:World) (h:MoIn B w a) :
  Calls Tryz.prog 52 #[moV a] w fun e w' => e = .returned (.bool (muchM a.d)) ∧ Below w.heap.size w w':=by
 have C0:=hide (fun v => cnameMuch_any a.nm v)
 have C1:=hide (fun v (hv:Below w.heap.size w v) => ccontNode_any 96 (ent_of Tryz.func96 (by kernel_rfl) rfl) #[] (fun x => muchNo x.d) a.qn a.cn a.nodes v (h.2.2.1.2.1.below hv) (fun u hu x hx => cnodeMuch_any x u ((h.2.2.1.1 x hx).kept nodeTS_in7 (Kept.below (bl_tr hv hu)))))
 have C2:=hide (fun v (hv:Below w.heap.size w v) => ccontInit_any 98 (ent_of Tryz.func98 (by kernel_rfl) rfl) #[] (fun x => muchI x.d) a.qi a.ci a.inits v (h.2.2.2.1.2.1.below hv) (fun u hu x hx => cinitMuch_any x u ((h.2.2.2.1.1 x hx).kept tenTS_in7 (Kept.below (bl_tr hv hu)))))
 have C3:=hide (fun v (hv:Below w.heap.size w v) => ccontValue_any 100 (ent_of Tryz.func100 (by kernel_rfl) rfl) #[] (fun x => muchV x.d) a.qp a.cp a.inp v (h.2.2.2.2.1.2.1.below hv) (fun u hu x hx => cvalMuch_any x u ((h.2.2.2.2.1.1 x hx).kept (TS:=modelTS) (by decide) (Kept.below (bl_tr hv hu)))))
 have C4:=hide (fun v (hv:Below w.heap.size w v) => ccontValue_any 100 (ent_of Tryz.func100 (by kernel_rfl) rfl) #[] (fun x => muchV x.d) a.qo a.co a.out v (h.2.2.2.2.2.2.1.below hv) (fun u hu x hx => cvalMuch_any x u ((h.2.2.2.2.2.1 x hx).kept (TS:=modelTS) (by decide) (Kept.below (bl_tr hv hu)))))
 obtain ⟨R,hR⟩:∃ R,muchM a.d = R:=⟨_,rfl⟩
 have HR:Hid (R = (muchN a.nm || (decide ((1024:Int) < a.nodes.length) || (a.nodes.any (fun x => muchNo x.d) || (decide ((1024:Int) < a.inits.length) || (a.inits.any (fun x => muchI x.d) || (decide ((64:Int) < a.inp.length) || (a.inp.any (fun x => muchV x.d) || (decide ((64:Int) < a.out.length) || a.out.any (fun x => muchV x.d)))))))))):=hide (by rw [← hR]; unfold muchM MoA.d; simp only [List.any_map,List.length_map]; rfl)
 rw [hR]
 have n1:=h.2.2.1.2.1.len
 have n2:=h.2.2.2.1.2.1.len
 have n3:=h.2.2.2.2.1.2.1.len
 have n4:=h.2.2.2.2.2.2.1.len
 clear hR h
 obtain ⟨ops,nm,nodes,qn,cn,inits,qi,ci,inp,qp,cp,out,qo,co⟩:=a
 simp only at C0 C1 C2 C3 C4 HR n1 n2 n3 n4
 generalize muchN nm = D0 at C0 HR
 generalize (nodes.any fun x => muchNo x.d) = D2 at C1 HR
 generalize (inits.any fun x => muchI x.d) = D4 at C2 HR
 generalize (inp.any fun x => muchV x.d) = D6 at C3 HR
 generalize (out.any fun x => muchV x.d) = D8 at C4 HR
 obtain ⟨D1,h1⟩:∃ S,decide ((1024:Int) < nodes.length) = S:=⟨_,rfl⟩
 obtain ⟨D3,h3⟩:∃ S,decide ((1024:Int) < inits.length) = S:=⟨_,rfl⟩
 obtain ⟨D5,h5⟩:∃ S,decide ((64:Int) < inp.length) = S:=⟨_,rfl⟩
 obtain ⟨D7,h7⟩:∃ S,decide ((64:Int) < out.length) = S:=⟨_,rfl⟩
 rw [h1,h3,h5,h7] at HR
 unfold strV at C0
 unfold moV moCells strV
 simp only
 have BN:Hid (∀ v,Below (w.alloc (Obj.cells #[.int .i64 ops,.string (strOfNums nm),.slice qn nodes.length cn,.slice qi inits.length ci,.slice qp inp.length cp,.slice qo out.length co] 26)).heap.size (w.alloc (Obj.cells #[.int .i64 ops,.string (strOfNums nm),.slice qn nodes.length cn,.slice qi inits.length ci,.slice qp inp.length cp,.slice qo out.length co] 26)) v → Box v w.heap.size #[.int .i64 ops,.string (strOfNums nm),.slice qn nodes.length cn,.slice qi inits.length ci,.slice qp inp.length cp,.slice qo out.length co] 26):=hide (fun v hv => Box.below (Box.new w _ _) hv)
 have B0:Hid (Below (w.alloc (Obj.cells #[.int .i64 ops,.string (strOfNums nm),.slice qn nodes.length cn,.slice qi inits.length ci,.slice qp inp.length cp,.slice qo out.length co] 26)).heap.size (w.alloc (Obj.cells #[.int .i64 ops,.string (strOfNums nm),.slice qn nodes.length cn,.slice qi inits.length ci,.slice qp inp.length cp,.slice qo out.length co] 26)) (w.alloc (Obj.cells #[.int .i64 ops,.string (strOfNums nm),.slice qn nodes.length cn,.slice qi inits.length ci,.slice qp inp.length cp,.slice qo out.length co] 26))):=hide (Below.refl _ _)
 go_enter Tryz.func52,Tryz.ntmps52
 go_wp2_with fail
 refine (uh C0 _).mono ?_
 rintro e v1 ⟨rfl,hv⟩
 replace hv:=hv.symm
 subst hv
 cases D0
 rotate_left
 ·have HE:Hid (true = R):=hide (by rw [uh HR]; rfl)
  clear HR
  go_wp2_with fail
  go_ret
  exact ⟨ret_bool (uh HE),bl_tr (al1p _ _) (uh B0)⟩
 cases D1
 rotate_left
 ·have t0:(1024:Int) < nodes.length:=of_decide_eq_true h1
  have HE:Hid (true = R):=hide (by rw [uh HR]; rfl)
  clear HR
  go_wp2_with fail
  go_ret
  exact ⟨ret_bool (uh HE),bl_tr (al1p _ _) (uh B0)⟩
 have t0:¬ (1024:Int) < nodes.length:=of_decide_eq_false h1
 go_wp2_with fail
 refine (uh C1 _ (bl_tr (al1p _ _) (uh B0))).mono ?_
 rintro e v1 ⟨rfl,hv⟩
 have B1:=hide (bl_tr (uh B0) hv)
 have x1:=(uh BN _ (uh B1)).cell
 clear hv
 cases D2
 rotate_left
 ·have HE:Hid (true = R):=hide (by rw [uh HR]; rfl)
  clear HR
  go_wp2_with fail
  go_ret
  exact ⟨ret_bool (uh HE),bl_tr (al1p _ _) (uh B1)⟩
 cases D3
 rotate_left
 ·have t1:(1024:Int) < inits.length:=of_decide_eq_true h3
  have HE:Hid (true = R):=hide (by rw [uh HR]; rfl)
  clear HR
  go_wp2_with fail
  go_ret
  exact ⟨ret_bool (uh HE),bl_tr (al1p _ _) (uh B1)⟩
 have t1:¬ (1024:Int) < inits.length:=of_decide_eq_false h3
 go_wp2_with fail
 refine (uh C2 _ (bl_tr (al1p _ _) (uh B1))).mono ?_
 rintro e v2 ⟨rfl,hv⟩
 have B2:=hide (bl_tr (uh B1) hv)
 have x2:=(uh BN _ (uh B2)).cell
 clear hv
 cases D4
 rotate_left
 ·have HE:Hid (true = R):=hide (by rw [uh HR]; rfl)
  clear HR
  go_wp2_with fail
  go_ret
  exact ⟨ret_bool (uh HE),bl_tr (al1p _ _) (uh B2)⟩
 cases D5
 rotate_left
 ·have t2:(64:Int) < inp.length:=of_decide_eq_true h5
  have HE:Hid (true = R):=hide (by rw [uh HR]; rfl)
  clear HR
  go_wp2_with fail
  go_ret
  exact ⟨ret_bool (uh HE),bl_tr (al1p _ _) (uh B2)⟩
 have t2:¬ (64:Int) < inp.length:=of_decide_eq_false h5
 go_wp2_with fail
 refine (uh C3 _ (bl_tr (al1p _ _) (uh B2))).mono ?_
 rintro e v3 ⟨rfl,hv⟩
 have B3:=hide (bl_tr (uh B2) hv)
 have x3:=(uh BN _ (uh B3)).cell
 clear hv
 cases D6
 rotate_left
 ·have HE:Hid (true = R):=hide (by rw [uh HR]; rfl)
  clear HR
  go_wp2_with fail
  go_ret
  exact ⟨ret_bool (uh HE),bl_tr (al1p _ _) (uh B3)⟩
 cases D7
 rotate_left
 ·have t3:(64:Int) < out.length:=of_decide_eq_true h7
  have HE:Hid (true = R):=hide (by rw [uh HR]; rfl)
  clear HR
  go_wp2_with fail
  go_ret
  exact ⟨ret_bool (uh HE),bl_tr (al1p _ _) (uh B3)⟩
 have t3:¬ (64:Int) < out.length:=of_decide_eq_false h7
 go_wp2_with fail
 refine (uh C4 _ (bl_tr (al1p _ _) (uh B3))).mono ?_
 rintro e v4 ⟨rfl,hv⟩
 have B4:=hide (bl_tr (uh B3) hv)
 have x4:=(uh BN _ (uh B4)).cell
 clear hv
 have HE:Hid (D8 = R):=hide (by rw [uh HR]; rfl)
 go_wp2_with fail
 go_ret
 exact ⟨ret_bool (uh HE),bl_tr (al1p _ _) (uh B4)⟩
theorem ccheck_any (a:MoA) {B:Nat} (w:World) (h:MoIn B w a) (hs:MoLt a) :
  Calls Tryz.prog 20 #[moV a] w fun e w' => e = .returned (.int .i64 (checkM a.d)) ∧ Below w.heap.size w w':=by
 have C1:=hide (fun v (hv:Below w.heap.size w v) => cmodelMay_any a v (h.below hv) hs)
 have C2:=hide (fun v (hv:Below w.heap.size w v) => cmodelMuch_any a v (h.below hv))
 obtain ⟨R,hR⟩:∃ R,checkM a.d = R:=⟨_,rfl⟩
 have HR:Hid (R = (if mayM a.d = false then 1 else if muchM a.d = true then 8 else 0)):=hide (by rw [← hR,check_code])
 rw [hR]
 clear hR h hs
 generalize mayM a.d = D1 at C1 HR
 generalize muchM a.d = D2 at C2 HR
 obtain ⟨ops,nm,nodes,qn,cn,inits,qi,ci,inp,qp,cp,out,qo,co⟩:=a
 unfold moV moCells strV at C1 C2 ⊢
 simp only at C1 C2 ⊢
 have BN:Hid (∀ v,Below (w.alloc (Obj.cells #[.int .i64 ops,.string (strOfNums nm),.slice qn nodes.length cn,.slice qi inits.length ci,.slice qp inp.length cp,.slice qo out.length co] 26)).heap.size (w.alloc (Obj.cells #[.int .i64 ops,.string (strOfNums nm),.slice qn nodes.length cn,.slice qi inits.length ci,.slice qp inp.length cp,.slice qo out.length co] 26)) v → Box v w.heap.size #[.int .i64 ops,.string (strOfNums nm),.slice qn nodes.length cn,.slice qi inits.length ci,.slice qp inp.length cp,.slice qo out.length co] 26):=hide (fun v hv => Box.below (Box.new w _ _) hv)
 have B0:Hid (Below (w.alloc (Obj.cells #[.int .i64 ops,.string (strOfNums nm),.slice qn nodes.length cn,.slice qi inits.length ci,.slice qp inp.length cp,.slice qo out.length co] 26)).heap.size (w.alloc (Obj.cells #[.int .i64 ops,.string (strOfNums nm),.slice qn nodes.length cn,.slice qi inits.length ci,.slice qp inp.length cp,.slice qo out.length co] 26)) (w.alloc (Obj.cells #[.int .i64 ops,.string (strOfNums nm),.slice qn nodes.length cn,.slice qi inits.length ci,.slice qp inp.length cp,.slice qo out.length co] 26))):=hide (Below.refl _ _)
 go_enter Tryz.func20,Tryz.ntmps20
 go_wp2_with fail
 refine (uh C1 _ (bl_tr (al1p _ _) (uh B0))).mono ?_
 rintro e v1 ⟨rfl,hv⟩
 have B1:=hide (bl_tr (uh B0) hv)
 have x1:=(uh BN _ (uh B1)).cell
 clear hv
 cases D1
 ·have HE:R = 1:=by rw [uh HR]; rfl
  subst HE
  clear HR C2
  go_wp2_with fail
  go_ret
  exact ⟨rfl,bl_tr (al1p _ _) (uh B1)⟩
 go_wp2_with fail
 refine (uh C2 _ (bl_tr (al1p _ _) (uh B1))).mono ?_
 rintro e v2 ⟨rfl,hv⟩
 have B2:=hide (bl_tr (uh B1) hv)
 clear hv
 cases D2
 ·have HE:R = 0:=by rw [uh HR]; rfl
  subst HE
  clear HR
  go_wp2_with fail
  go_ret
  exact ⟨rfl,bl_tr (al1p _ _) (uh B2)⟩
 have HE:R = 8:=by rw [uh HR]; rfl
 subst HE
 clear HR
 go_wp2_with fail
 go_ret
 exact ⟨rfl,bl_tr (al1p _ _) (uh B2)⟩
end Go.Proofs.YtbmmcbagdomonaaGreat
