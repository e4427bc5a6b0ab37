import Derived.Test.YtaikppgoahdjbabGreatV19
import Derived.Test.YtaikppgoahdjbabGreatV46
import Derived.Test.YtaikppgoahdjbabGreatV50
set_option maxRecDepth 100000
set_option maxHeartbeats 8000000
namespace Go.Proofs.YtaikppgoahdjbabGreat
open Go.RowKit
set_option linter.unusedVariables false
theorem box_i64 {u:World} {k:Nat} {cs:Array Value} {t:TypeId} (h:Box u k cs t) (xs:List Int) (hc:cs = (xs.map (Value.int .i64)).toArray) (hx:∀ x ∈ xs,(Lit.int .i64 x).wf = true) (hn:xs.length ≤ 1000):Ints .i64 u (some ⟨k,0,none⟩) xs.length xs:=by
 refine ⟨Nat.le_refl _,by omega,hx,fun _ => ⟨k,0,rfl,h.lt,fun i hi => ?_⟩,fun h => by cases h⟩
 rw [h.cell,hc,Nat.zero_add]
 simp [List.getElem?_eq_getElem hi]
theorem box_tag {u:World} {k B n:Nat} {cs:Array Value} {t:TypeId} (h:Box u k cs t):Tag t B u (some ⟨k,0,none⟩) n:=fun _ => ⟨k,0,rfl,h.lt,.inr ⟨cs,h⟩⟩
def awM (w:World):MoA:=⟨17,[],[],none,0,[],none,0,[],none,0,[⟨[121],1,[2],some ⟨w.heap.size,0,none⟩,1⟩],some ⟨w.heap.size + 1,0,none⟩,1⟩
theorem awM_in {w u:World} (h1:Box u w.heap.size #[.int .i64 2] 3) (h2:Box u (w.heap.size + 1) #[.string { data:=#[121] },.int .i64 1,.slice (some ⟨w.heap.size,0,none⟩) 1 1] 47):MoIn 0 u (awM w):=by
 refine ⟨rfl,fun c hc => (by cases hc),⟨fun x hx => (by cases hx),Rc.nil u,Tag.nil _ _ _ _⟩,⟨fun x hx => (by cases hx),Rc.nil u,Tag.nil _ _ _ _⟩,⟨fun x hx => (by cases hx),Rc.nil u,Tag.nil _ _ _ _⟩,fun x hx => ?_,⟨Nat.le_refl _,(show (1:Nat) ≤ 9223372036854775807 by decide),fun _ => ⟨w.heap.size + 1,0,rfl,h2.lt,fun i hi j v hv => ?_⟩,fun h => by cases h⟩,box_tag h2⟩
 ·have e:x = ⟨[121],1,[2],some ⟨w.heap.size,0,none⟩,1⟩:=by simpa [awM] using hx
  subst e
  exact ⟨fun c hc => (by simp at hc; subst hc; decide),rfl,box_i64 h1 [2] rfl (by decide) (by decide),box_tag h1⟩
 ·have hi0:i = 0:=by simp [awM] at hi; omega
  subst hi0
  have:=h2.cell j
  rw [Nat.zero_mul,Nat.zero_add,this,List.getElem?_toArray]
  exact hv
theorem awake7_any (w:World):Calls Tryz.prog 5 #[] w fun e w' => e = .returned (.bool true) ∧ Below w.heap.size w w':=by
 have e1:encodeV (17,[],[],[],[],[([121],1,[2])]) = ([8,8,58,17,98,15,10,1,121,18,10,10,8,8,1,18,4,10,2,8,2,66,2,16,17],0):=by decide +kernel
 have e2:decC [8,8,58,17,98,15,10,1,121,18,10,10,8,8,1,18,4,10,2,8,2,66,2,16,17] = 0:=by decide +kernel
 have e3:(decodeV [8,8,58,17,98,15,10,1,121,18,10,10,8,8,1,18,4,10,2,8,2,66,2,16,17]).1 = (17,[],[],[],[],[([121],1,[2])]):=by kernel_rfl
 have e4:decC [] = 6:=by decide +kernel
 have e5:decC [58,0] = 7:=by decide +kernel
 have e6:countV [2,3] = (6,0):=by decide +kernel
 have e7:countV [4097] = (0,8):=by decide +kernel
 have B1:=hide (al4p w (Obj.cells #[.int .i64 2] 3) (Obj.cells #[.string { data:=#[121] },.int .i64 1,.slice (some ⟨w.heap.size,0,none⟩) 1 1] 47) (Obj.cells #[.int .i64 17,.string { data:=#[] },.slice none 0 0,.slice none 0 0,.slice none 0 0,.slice (some ⟨w.heap.size + 1,0,none⟩) 1 1] 26) (Obj.cells #[.int .u8 8,.int .u8 8,.int .u8 58,.int .u8 17,.int .u8 98,.int .u8 15,.int .u8 10,.int .u8 1,.int .u8 121,.int .u8 18,.int .u8 10,.int .u8 10,.int .u8 8,.int .u8 8,.int .u8 1,.int .u8 18,.int .u8 4,.int .u8 10,.int .u8 2,.int .u8 8,.int .u8 2,.int .u8 66,.int .u8 2,.int .u8 16,.int .u8 17] 5))
 have X1:=hide ((((Box.new w #[.int .i64 2] 3).alloc (Obj.cells #[.string { data:=#[121] },.int .i64 1,.slice (some ⟨w.heap.size,0,none⟩) 1 1] 47)).alloc (Obj.cells #[.int .i64 17,.string { data:=#[] },.slice none 0 0,.slice none 0 0,.slice none 0 0,.slice (some ⟨w.heap.size + 1,0,none⟩) 1 1] 26)).alloc (Obj.cells #[.int .u8 8,.int .u8 8,.int .u8 58,.int .u8 17,.int .u8 98,.int .u8 15,.int .u8 10,.int .u8 1,.int .u8 121,.int .u8 18,.int .u8 10,.int .u8 10,.int .u8 8,.int .u8 8,.int .u8 1,.int .u8 18,.int .u8 4,.int .u8 10,.int .u8 2,.int .u8 8,.int .u8 2,.int .u8 66,.int .u8 2,.int .u8 16,.int .u8 17] 5))
 have X2:Hid (Box ((((w.alloc (Obj.cells #[.int .i64 2] 3)).alloc (Obj.cells #[.string { data:=#[121] },.int .i64 1,.slice (some ⟨w.heap.size,0,none⟩) 1 1] 47)).alloc (Obj.cells #[.int .i64 17,.string { data:=#[] },.slice none 0 0,.slice none 0 0,.slice none 0 0,.slice (some ⟨w.heap.size + 1,0,none⟩) 1 1] 26)).alloc (Obj.cells #[.int .u8 8,.int .u8 8,.int .u8 58,.int .u8 17,.int .u8 98,.int .u8 15,.int .u8 10,.int .u8 1,.int .u8 121,.int .u8 18,.int .u8 10,.int .u8 10,.int .u8 8,.int .u8 8,.int .u8 1,.int .u8 18,.int .u8 4,.int .u8 10,.int .u8 2,.int .u8 8,.int .u8 2,.int .u8 66,.int .u8 2,.int .u8 16,.int .u8 17] 5)) (w.heap.size + 1) #[.string { data:=#[121] },.int .i64 1,.slice (some ⟨w.heap.size,0,none⟩) 1 1] 47):=hide (by have h:=(((Box.new (w.alloc (Obj.cells #[.int .i64 2] 3)) #[.string { data:=#[121] },.int .i64 1,.slice (some ⟨w.heap.size,0,none⟩) 1 1] 47).alloc (Obj.cells #[.int .i64 17,.string { data:=#[] },.slice none 0 0,.slice none 0 0,.slice none 0 0,.slice (some ⟨w.heap.size + 1,0,none⟩) 1 1] 26)).alloc (Obj.cells #[.int .u8 8,.int .u8 8,.int .u8 58,.int .u8 17,.int .u8 98,.int .u8 15,.int .u8 10,.int .u8 1,.int .u8 121,.int .u8 18,.int .u8 10,.int .u8 10,.int .u8 8,.int .u8 8,.int .u8 1,.int .u8 18,.int .u8 4,.int .u8 10,.int .u8 2,.int .u8 8,.int .u8 2,.int .u8 66,.int .u8 2,.int .u8 16,.int .u8 17] 5)); rw [alloc_size6] at h; exact h)
 have X3:Hid (Box ((((w.alloc (Obj.cells #[.int .i64 2] 3)).alloc (Obj.cells #[.string { data:=#[121] },.int .i64 1,.slice (some ⟨w.heap.size,0,none⟩) 1 1] 47)).alloc (Obj.cells #[.int .i64 17,.string { data:=#[] },.slice none 0 0,.slice none 0 0,.slice none 0 0,.slice (some ⟨w.heap.size + 1,0,none⟩) 1 1] 26)).alloc (Obj.cells #[.int .u8 8,.int .u8 8,.int .u8 58,.int .u8 17,.int .u8 98,.int .u8 15,.int .u8 10,.int .u8 1,.int .u8 121,.int .u8 18,.int .u8 10,.int .u8 10,.int .u8 8,.int .u8 8,.int .u8 1,.int .u8 18,.int .u8 4,.int .u8 10,.int .u8 2,.int .u8 8,.int .u8 2,.int .u8 66,.int .u8 2,.int .u8 16,.int .u8 17] 5)) (w.heap.size + 1 + 1) #[.int .i64 17,.string { data:=#[] },.slice none 0 0,.slice none 0 0,.slice none 0 0,.slice (some ⟨w.heap.size + 1,0,none⟩) 1 1] 26):=hide (by have h:=((Box.new ((w.alloc (Obj.cells #[.int .i64 2] 3)).alloc (Obj.cells #[.string { data:=#[121] },.int .i64 1,.slice (some ⟨w.heap.size,0,none⟩) 1 1] 47)) #[.int .i64 17,.string { data:=#[] },.slice none 0 0,.slice none 0 0,.slice none 0 0,.slice (some ⟨w.heap.size + 1,0,none⟩) 1 1] 26).alloc (Obj.cells #[.int .u8 8,.int .u8 8,.int .u8 58,.int .u8 17,.int .u8 98,.int .u8 15,.int .u8 10,.int .u8 1,.int .u8 121,.int .u8 18,.int .u8 10,.int .u8 10,.int .u8 8,.int .u8 8,.int .u8 1,.int .u8 18,.int .u8 4,.int .u8 10,.int .u8 2,.int .u8 8,.int .u8 2,.int .u8 66,.int .u8 2,.int .u8 16,.int .u8 17] 5)); rw [alloc_size6,alloc_size6] at h; exact h)
 have X4:Hid (Box ((((w.alloc (Obj.cells #[.int .i64 2] 3)).alloc (Obj.cells #[.string { data:=#[121] },.int .i64 1,.slice (some ⟨w.heap.size,0,none⟩) 1 1] 47)).alloc (Obj.cells #[.int .i64 17,.string { data:=#[] },.slice none 0 0,.slice none 0 0,.slice none 0 0,.slice (some ⟨w.heap.size + 1,0,none⟩) 1 1] 26)).alloc (Obj.cells #[.int .u8 8,.int .u8 8,.int .u8 58,.int .u8 17,.int .u8 98,.int .u8 15,.int .u8 10,.int .u8 1,.int .u8 121,.int .u8 18,.int .u8 10,.int .u8 10,.int .u8 8,.int .u8 8,.int .u8 1,.int .u8 18,.int .u8 4,.int .u8 10,.int .u8 2,.int .u8 8,.int .u8 2,.int .u8 66,.int .u8 2,.int .u8 16,.int .u8 17] 5)) (w.heap.size + 1 + 1 + 1) #[.int .u8 8,.int .u8 8,.int .u8 58,.int .u8 17,.int .u8 98,.int .u8 15,.int .u8 10,.int .u8 1,.int .u8 121,.int .u8 18,.int .u8 10,.int .u8 10,.int .u8 8,.int .u8 8,.int .u8 1,.int .u8 18,.int .u8 4,.int .u8 10,.int .u8 2,.int .u8 8,.int .u8 2,.int .u8 66,.int .u8 2,.int .u8 16,.int .u8 17] 5):=hide (by have h:=Box.new (((w.alloc (Obj.cells #[.int .i64 2] 3)).alloc (Obj.cells #[.string { data:=#[121] },.int .i64 1,.slice (some ⟨w.heap.size,0,none⟩) 1 1] 47)).alloc (Obj.cells #[.int .i64 17,.string { data:=#[] },.slice none 0 0,.slice none 0 0,.slice none 0 0,.slice (some ⟨w.heap.size + 1,0,none⟩) 1 1] 26)) #[.int .u8 8,.int .u8 8,.int .u8 58,.int .u8 17,.int .u8 98,.int .u8 15,.int .u8 10,.int .u8 1,.int .u8 121,.int .u8 18,.int .u8 10,.int .u8 10,.int .u8 8,.int .u8 8,.int .u8 1,.int .u8 18,.int .u8 4,.int .u8 10,.int .u8 2,.int .u8 8,.int .u8 2,.int .u8 66,.int .u8 2,.int .u8 16,.int .u8 17] 5; rw [alloc_size6,alloc_size6,alloc_size6] at h; exact h)
 go_enter Tryz.func5,Tryz.ntmps5
 go_wp2_with fail
 generalize (((w.alloc (Obj.cells #[.int .i64 2] 3)).alloc (Obj.cells #[.string { data:=#[121] },.int .i64 1,.slice (some ⟨w.heap.size,0,none⟩) 1 1] 47)).alloc (Obj.cells #[.int .i64 17,.string { data:=#[] },.slice none 0 0,.slice none 0 0,.slice none 0 0,.slice (some ⟨w.heap.size + 1,0,none⟩) 1 1] 26)).alloc (Obj.cells #[.int .u8 8,.int .u8 8,.int .u8 58,.int .u8 17,.int .u8 98,.int .u8 15,.int .u8 10,.int .u8 1,.int .u8 121,.int .u8 18,.int .u8 10,.int .u8 10,.int .u8 8,.int .u8 8,.int .u8 1,.int .u8 18,.int .u8 4,.int .u8 10,.int .u8 2,.int .u8 8,.int .u8 2,.int .u8 66,.int .u8 2,.int .u8 16,.int .u8 17] 5) = W1 at B1 X1 X2 X3 X4 ⊢
 have MI:=hide (awM_in (uh X1) (uh X2))
 have IW:=hide (box_ints (uh X4) [8,8,58,17,98,15,10,1,121,18,10,10,8,8,1,18,4,10,2,8,2,66,2,16,17] rfl (by decide) (by decide))
 have CE:Hid (Calls Tryz.prog 6 #[.agg #[.int .i64 17,.string { data:=#[] },.slice none 0 0,.slice none 0 0,.slice none 0 0,.slice (some ⟨w.heap.size + 1,0,none⟩) 1 1]] W1 fun e w' => ∃ v,e = .returned (.tuple #[v,.int .i64 0]) ∧ OwnG 5 (Value.int .u8) W1 w' v [8,8,58,17,98,15,10,1,121,18,10,10,8,8,1,18,4,10,2,8,2,66,2,16,17]):=hide (by
  have h:=cencode_any (awM w) W1 (uh MI) ⟨fun x hx => (by cases hx),fun x hx => (by cases hx)⟩ (Nat.zero_le _)
  rw [show (awM w).d = (17,[],[],[],[],[([121],1,[2])]) from rfl,e1] at h
  exact h)
 have x3:=(uh X3).cell
 refine (uh CE).mono ?_
 rintro e w2 ⟨v2,rfl,hO⟩
 obtain ⟨q2,d2,hq2,hL2,_⟩:=hO.form
 subst hq2
 have SB:=hide (fun v (hv:Below w2.heap.size w2 v) => hL2.below hv)
 have B2:=hide (bl_tr (uh B1) hO.2)
 have IW2:=hide ((uh IW).below hO.2)
 have X32:=hide ((uh X3).below hO.2)
 have MI2:=hide ((uh MI).below hO.2)
 have l2:=(uh X32).lt
 clear hO hL2 CE x3
 have CD:Hid (Calls Tryz.prog 11 #[.slice (some ⟨w.heap.size + 1 + 1 + 1,0,none⟩) 25 25] w2 fun e w' => ∃ x:MoA,e = .returned (.tuple #[moV x,.int .i64 0]) ∧ Hid (x.d = (17,[],[],[],[],[([121],1,[2])]) ∧ MoIn 0 w' x ∧ Below w2.heap.size w2 w')):=hide (by
  have h:=cdecode_any _ _ [8,8,58,17,98,15,10,1,121,18,10,10,8,8,1,18,4,10,2,8,2,66,2,16,17] w2 (uh IW2)
  rw [e2] at h
  refine h.mono (fun e u hh => ?_)
  obtain ⟨x,he,hh⟩:=hh
  obtain ⟨⟨_,g1⟩,g2,g3⟩:=uh hh
  exact ⟨x,he,hide ⟨(g1 rfl).trans e3,g2,g3⟩⟩)
 go_wp2_with fail
 refine (uh CD).mono ?_
 rintro e w3 ⟨x,rfl,hq⟩
 obtain ⟨g1,g2,g3⟩:=uh hq
 have XD:=hide g1
 have MX:=hide g2
 have B3:=hide (bl_tr (uh B2) g3)
 have B23:=hide g3
 have X33:=hide ((uh X32).below g3)
 have MI3:=hide ((uh MI2).below g3)
 have IW3:=hide ((uh IW2).below g3)
 clear hq g1 g2 g3 CD
 obtain ⟨xops,xnm,xnodes,xqn,xcn,xinits,xqi,xci,xinp,xqp,xcp,xout,xqo,xco⟩:=x
 simp only [moV,moCells,strV]
 have BD:=hide (al1p w3 (Obj.cells #[.int .i64 xops,.string (strOfNums xnm),.slice xqn xnodes.length xcn,.slice xqi xinits.length xci,.slice xqp xinp.length xcp,.slice xqo xout.length xco] 26))
 have CN:Hid (Calls Tryz.prog 11 #[.slice none 0 0] (w3.alloc (Obj.cells #[.int .i64 xops,.string (strOfNums xnm),.slice xqn xnodes.length xcn,.slice xqi xinits.length xci,.slice xqp xinp.length xcp,.slice xqo xout.length xco] 26)) fun e w' => ∃ x:MoA,e = .returned (.tuple #[moV x,.int .i64 6]) ∧ Below (w3.alloc (Obj.cells #[.int .i64 xops,.string (strOfNums xnm),.slice xqn xnodes.length xcn,.slice xqi xinits.length xci,.slice xqp xinp.length xcp,.slice xqo xout.length xco] 26)).heap.size (w3.alloc (Obj.cells #[.int .i64 xops,.string (strOfNums xnm),.slice xqn xnodes.length xcn,.slice xqi xinits.length xci,.slice xqp xinp.length xcp,.slice xqo xout.length xco] 26)) w'):=hide (by
  have h:=cdecode_any none 0 [] (w3.alloc (Obj.cells #[.int .i64 xops,.string (strOfNums xnm),.slice xqn xnodes.length xcn,.slice xqi xinits.length xci,.slice xqp xinp.length xcp,.slice xqo xout.length xco] 26)) (nilInts _ _)
  rw [e4] at h
  refine h.mono (fun e u hh => ?_)
  obtain ⟨x,he,hh⟩:=hh
  exact ⟨x,he,(uh hh).2.2⟩)
 go_wp2_with fail
 refine (uh CN).mono ?_
 rintro e w4 ⟨y,rfl,hb4⟩
 have B34:=hide hb4
 clear hb4 CN
 obtain ⟨yops,ynm,ynodes,yqn,ycn,yinits,yqi,yci,yinp,yqp,ycp,yout,yqo,yco⟩:=y
 simp only [moV,moCells,strV]
 have BD4:=hide (al2p w4 (Obj.cells #[.int .i64 yops,.string (strOfNums ynm),.slice yqn ynodes.length ycn,.slice yqi yinits.length yci,.slice yqp yinp.length ycp,.slice yqo yout.length yco] 26) (Obj.cells #[.int .u8 58,.int .u8 0] 5))
 have RB4:Hid (Box ((w4.alloc (Obj.cells #[.int .i64 yops,.string (strOfNums ynm),.slice yqn ynodes.length ycn,.slice yqi yinits.length yci,.slice yqp yinp.length ycp,.slice yqo yout.length yco] 26)).alloc (Obj.cells #[.int .u8 58,.int .u8 0] 5)) (w4.heap.size + 1) #[.int .u8 58,.int .u8 0] 5):=hide (by have h:=Box.new (w4.alloc (Obj.cells #[.int .i64 yops,.string (strOfNums ynm),.slice yqn ynodes.length ycn,.slice yqi yinits.length yci,.slice yqp yinp.length ycp,.slice yqo yout.length yco] 26)) #[.int .u8 58,.int .u8 0] 5; rw [alloc_size6] at h; exact h)
 have C5:Hid (Calls Tryz.prog 11 #[.slice (some ⟨w4.heap.size + 1,0,none⟩) 2 2] ((w4.alloc (Obj.cells #[.int .i64 yops,.string (strOfNums ynm),.slice yqn ynodes.length ycn,.slice yqi yinits.length yci,.slice yqp yinp.length ycp,.slice yqo yout.length yco] 26)).alloc (Obj.cells #[.int .u8 58,.int .u8 0] 5)) fun e w' => ∃ x:MoA,e = .returned (.tuple #[moV x,.int .i64 7]) ∧ Below w4.heap.size w4 w'):=hide (by
  have h:=cdecode_any _ _ [58,0] _ (box_ints (uh RB4) [58,0] rfl (by decide) (by decide))
  rw [e5] at h
  refine h.mono (fun e u hh => ?_)
  obtain ⟨x,he,hh⟩:=hh
  exact ⟨x,he,bl_tr (uh BD4) (uh hh).2.2⟩)
 go_wp2_with fail
 refine (uh C5).mono ?_
 rintro e w5 ⟨z,rfl,hb5⟩
 have B35:=hide (bl_tr (uh B34) hb5)
 clear hb5 C5 RB4 BD4
 obtain ⟨zops,znm,znodes,zqn,zcn,zinits,zqi,zci,zinp,zqp,zcp,zout,zqo,zco⟩:=z
 simp only [moV,moCells,strV]
 have RB5:Hid (Box ((w5.alloc (Obj.cells #[.int .i64 zops,.string (strOfNums znm),.slice zqn znodes.length zcn,.slice zqi zinits.length zci,.slice zqp zinp.length zcp,.slice zqo zout.length zco] 26)).alloc (Obj.cells #[.int .i64 2,.int .i64 3] 3)) (w5.heap.size + 1) #[.int .i64 2,.int .i64 3] 3):=hide (by have h:=Box.new (w5.alloc (Obj.cells #[.int .i64 zops,.string (strOfNums znm),.slice zqn znodes.length zcn,.slice zqi zinits.length zci,.slice zqp zinp.length zcp,.slice zqo zout.length zco] 26)) #[.int .i64 2,.int .i64 3] 3; rw [alloc_size6] at h; exact h)
 have C6:Hid (Calls Tryz.prog 14 #[.slice (some ⟨w5.heap.size + 1,0,none⟩) 2 2] ((w5.alloc (Obj.cells #[.int .i64 zops,.string (strOfNums znm),.slice zqn znodes.length zcn,.slice zqi zinits.length zci,.slice zqp zinp.length zcp,.slice zqo zout.length zco] 26)).alloc (Obj.cells #[.int .i64 2,.int .i64 3] 3)) fun e w' => e = .returned (.tuple #[.int .i64 6,.int .i64 0]) ∧ w' = ((w5.alloc (Obj.cells #[.int .i64 zops,.string (strOfNums znm),.slice zqn znodes.length zcn,.slice zqi zinits.length zci,.slice zqp zinp.length zcp,.slice zqo zout.length zco] 26)).alloc (Obj.cells #[.int .i64 2,.int .i64 3] 3))):=hide (by
  have h:=ccount_any _ _ [2,3] _ (box_i64 (uh RB5) [2,3] rfl (by decide) (by decide))
  rw [e6] at h
  exact h)
 go_wp2_with fail
 refine (uh C6).mono ?_
 rintro e v ⟨rfl,rfl⟩
 have RB6:Hid (Box (((w5.alloc (Obj.cells #[.int .i64 zops,.string (strOfNums znm),.slice zqn znodes.length zcn,.slice zqi zinits.length zci,.slice zqp zinp.length zcp,.slice zqo zout.length zco] 26)).alloc (Obj.cells #[.int .i64 2,.int .i64 3] 3)).alloc (Obj.cells #[.int .i64 4097] 3)) (w5.heap.size + 1 + 1) #[.int .i64 4097] 3):=hide (by have h:=Box.new ((w5.alloc (Obj.cells #[.int .i64 zops,.string (strOfNums znm),.slice zqn znodes.length zcn,.slice zqi zinits.length zci,.slice zqp zinp.length zcp,.slice zqo zout.length zco] 26)).alloc (Obj.cells #[.int .i64 2,.int .i64 3] 3)) #[.int .i64 4097] 3; rw [alloc_size6,alloc_size6] at h; exact h)
 have C7:Hid (Calls Tryz.prog 14 #[.slice (some ⟨w5.heap.size + 1 + 1,0,none⟩) 1 1] (((w5.alloc (Obj.cells #[.int .i64 zops,.string (strOfNums znm),.slice zqn znodes.length zcn,.slice zqi zinits.length zci,.slice zqp zinp.length zcp,.slice zqo zout.length zco] 26)).alloc (Obj.cells #[.int .i64 2,.int .i64 3] 3)).alloc (Obj.cells #[.int .i64 4097] 3)) fun e w' => e = .returned (.tuple #[.int .i64 0,.int .i64 8]) ∧ w' = (((w5.alloc (Obj.cells #[.int .i64 zops,.string (strOfNums znm),.slice zqn znodes.length zcn,.slice zqi zinits.length zci,.slice zqp zinp.length zcp,.slice zqo zout.length zco] 26)).alloc (Obj.cells #[.int .i64 2,.int .i64 3] 3)).alloc (Obj.cells #[.int .i64 4097] 3))):=hide (by
  have h:=ccount_any _ _ [4097] _ (box_i64 (uh RB6) [4097] rfl (by decide) (by decide))
  rw [e7] at h
  exact h)
 clear C6 RB5
 go_wp2_with fail
 refine (uh C7).mono ?_
 rintro e v ⟨rfl,rfl⟩
 have B36:=hide (bl_tr (uh B35) (al3p w5 (Obj.cells #[.int .i64 zops,.string (strOfNums znm),.slice zqn znodes.length zcn,.slice zqi zinits.length zci,.slice zqp zinp.length zcp,.slice zqo zout.length zco] 26) (Obj.cells #[.int .i64 2,.int .i64 3] 3) (Obj.cells #[.int .i64 4097] 3)))
 clear C7 RB6 B34 B35 e1 e2 e3 e4 e5 e6 e7
 generalize ((w5.alloc (Obj.cells #[.int .i64 zops,.string (strOfNums znm),.slice zqn znodes.length zcn,.slice zqi zinits.length zci,.slice zqp zinp.length zcp,.slice zqo zout.length zco] 26)).alloc (Obj.cells #[.int .i64 2,.int .i64 3] 3)).alloc (Obj.cells #[.int .i64 4097] 3) = W6 at B36 ⊢
 have CB:Hid (Calls Tryz.prog 15 #[.slice q2 25 d2,.slice (some ⟨w.heap.size + 1 + 1 + 1,0,none⟩) 25 25] W6 fun e w' => e = .returned (.bool true) ∧ Below W6.heap.size W6 w'):=hide (by
  have h:=rsameb_any q2 (some ⟨w.heap.size + 1 + 1 + 1,0,none⟩) d2 25 [8,8,58,17,98,15,10,1,121,18,10,10,8,8,1,18,4,10,2,8,2,66,2,16,17] [8,8,58,17,98,15,10,1,121,18,10,10,8,8,1,18,4,10,2,8,2,66,2,16,17] W6 ((uh SB W6 (bl_tr (uh B23) (bl_tr (uh BD) (uh B36)))).ints (by decide)) ((uh IW3).below (bl_tr (uh BD) (uh B36)))
  rw [show decide (([8,8,58,17,98,15,10,1,121,18,10,10,8,8,1,18,4,10,2,8,2,66,2,16,17]:List Int) = [8,8,58,17,98,15,10,1,121,18,10,10,8,8,1,18,4,10,2,8,2,66,2,16,17]) = true from decide_eq_true rfl] at h
  exact h)
 go_wp2_with fail
 refine (uh CB).mono ?_
 rintro e w7 ⟨rfl,hb7⟩
 have B37:=hide (bl_tr (uh B36) hb7)
 have B37':=hide (bl_tr (uh BD) (uh B37))
 have NX:=hide ((Box.new w3 #[.int .i64 xops,.string (strOfNums xnm),.slice xqn xnodes.length xcn,.slice xqi xinits.length xci,.slice xqp xinp.length xcp,.slice xqo xout.length xco] 26).below (uh B37))
 have X37:=hide ((uh X33).below (uh B37'))
 have CS:Hid (Calls Tryz.prog 12 #[.agg #[.int .i64 xops,.string (strOfNums xnm),.slice xqn xnodes.length xcn,.slice xqi xinits.length xci,.slice xqp xinp.length xcp,.slice xqo xout.length xco],.agg #[.int .i64 17,.string { data:=#[] },.slice none 0 0,.slice none 0 0,.slice none 0 0,.slice (some ⟨w.heap.size + 1,0,none⟩) 1 1]] w7 fun e w' => e = .returned (.bool true) ∧ Below w7.heap.size w7 w'):=hide (rmodel_true ⟨xops,xnm,xnodes,xqn,xcn,xinits,xqi,xci,xinp,xqp,xcp,xout,xqo,xco⟩ (awM w) w7 ((uh MX).below (uh B37')) ((uh MI3).below (uh B37')) (uh XD))
 have nx:=(uh NX).cell
 have x37:=(uh X37).cell
 clear hb7
 go_wp2_with fail
 refine (uh CS).mono ?_
 rintro e w8 ⟨rfl,hb8⟩
 have B8:=hide (bl_tr (uh B3) (bl_tr (uh B37') hb8))
 clear hb8 nx x37
 go_wp2_with fail
 go_ret
 exact ⟨rfl,uh B8⟩
end Go.Proofs.YtaikppgoahdjbabGreat
