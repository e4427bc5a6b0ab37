import Derived.Deep.Strs
import Derived.Test.YtmdlaahdgjegcaaGreatV01
import Derived.Test.YtmdlaahdgjegcaaGreatV05
import Derived.Test.YtmdlaahdgjegcaaGreatV10
import Derived.Test.YtmdlaahdgjegcaaGreatV18
import Derived.Test.YtmdlaahdgjegcaaGreatV24
import Derived.Test.YtmdlaahdgjegcaaGreatV39
import Derived.Test.YtmdlaahdgjegcaaGreatV50
set_option maxRecDepth 100000
set_option maxHeartbeats 8000000
namespace Go.Proofs.YtmdlaahdgjegcaaGreat
open Go.RowKit
set_option linter.unusedVariables false
theorem box_i64 {u:World} {k:Nat} {cs:Array Value} {t:TypeId} (h:Box u k cs t) (xs:List Int) (hc:cs = (xs.map (Value.int .i64)).toArray) (hx:∀ x ∈ xs,(Lit.int .i64 x).wf = true) (hn:xs.length ≤ 1000):Ints .i64 u (some ⟨k,0,none⟩) xs.length xs:=by
 refine ⟨Nat.le_refl _,by omega,hx,fun _ => ⟨k,0,rfl,h.lt,fun i hi => ?_⟩,fun h => by cases h⟩
 rw [h.cell,hc,Nat.zero_add]
 simp [List.getElem?_eq_getElem hi]
theorem box_tag {u:World} {k B n:Nat} {cs:Array Value} {t:TypeId} (h:Box u k cs t):Tag t B u (some ⟨k,0,none⟩) n:=fun _ => ⟨k,0,rfl,h.lt,.inr ⟨cs,h⟩⟩
def awM (w:World):MoA:=⟨17,[],[],none,0,[],none,0,[],none,0,[⟨[121],1,[2],some ⟨w.heap.size,0,none⟩,1⟩],some ⟨w.heap.size + 1,0,none⟩,1⟩
theorem awM_in {w u:World} (h1:Box u w.heap.size #[.int .i64 2] 3) (h2:Box u (w.heap.size + 1) #[.string { data:=#[121] },.int .i64 1,.slice (some ⟨w.heap.size,0,none⟩) 1 1] 52):MoIn 0 u (awM w):=by
 refine ⟨rfl,fun c hc => (by cases hc),⟨fun x hx => (by cases hx),Rc.nil u,Tag.nil _ _ _ _⟩,⟨fun x hx => (by cases hx),Rc.nil u,Tag.nil _ _ _ _⟩,⟨fun x hx => (by cases hx),Rc.nil u,Tag.nil _ _ _ _⟩,fun x hx => ?_,⟨Nat.le_refl _,(show (1:Nat) ≤ 9223372036854775807 by decide),fun _ => ⟨w.heap.size + 1,0,rfl,h2.lt,fun i hi j v hv => ?_⟩,fun h => by cases h⟩,box_tag h2⟩
 ·have e:x = ⟨[121],1,[2],some ⟨w.heap.size,0,none⟩,1⟩:=by simpa [awM] using hx
  subst e
  exact ⟨fun c hc => (by simp at hc; subst hc; decide),rfl,box_i64 h1 [2] rfl (by decide) (by decide),box_tag h1⟩
 ·have hi0:i = 0:=by simp [awM] at hi; omega
  subst hi0
  have:=h2.cell j
  rw [Nat.zero_mul,Nat.zero_add,this,List.getElem?_toArray]
  exact hv
theorem awake7_any (w:World):Calls Tryz.prog 9 #[] w fun e w' => e = .returned (.bool true) ∧ Below w.heap.size w w':=by
 have e1:encodeV (17,[],[],[],[],[([121],1,[2])]) = ([8,8,58,17,98,15,10,1,121,18,10,10,8,8,1,18,4,10,2,8,2,66,2,16,17],0):=by decide +kernel
 have e2:decC [8,8,58,17,98,15,10,1,121,18,10,10,8,8,1,18,4,10,2,8,2,66,2,16,17] = 0:=by decide +kernel
 have e3:(decodeV [8,8,58,17,98,15,10,1,121,18,10,10,8,8,1,18,4,10,2,8,2,66,2,16,17]).1 = (17,[],[],[],[],[([121],1,[2])]):=by kernel_rfl
 have e4:decC [] = 6:=by decide +kernel
 have e5:decC [58,0] = 7:=by decide +kernel
 have e6:countV [2,3] = (6,0):=by decide +kernel
 have e7:countV [4097] = (0,8):=by decide +kernel
 have B1:=hide (al4p w (Obj.cells #[.int .i64 2] 3) (Obj.cells #[.string { data:=#[121] },.int .i64 1,.slice (some ⟨w.heap.size,0,none⟩) 1 1] 52) (Obj.cells #[.int .i64 17,.string { data:=#[] },.slice none 0 0,.slice none 0 0,.slice none 0 0,.slice (some ⟨w.heap.size + 1,0,none⟩) 1 1] 29) (Obj.cells #[.int .u8 8,.int .u8 8,.int .u8 58,.int .u8 17,.int .u8 98,.int .u8 15,.int .u8 10,.int .u8 1,.int .u8 121,.int .u8 18,.int .u8 10,.int .u8 10,.int .u8 8,.int .u8 8,.int .u8 1,.int .u8 18,.int .u8 4,.int .u8 10,.int .u8 2,.int .u8 8,.int .u8 2,.int .u8 66,.int .u8 2,.int .u8 16,.int .u8 17] 5))
 have X1:=hide ((((Box.new w #[.int .i64 2] 3).alloc (Obj.cells #[.string { data:=#[121] },.int .i64 1,.slice (some ⟨w.heap.size,0,none⟩) 1 1] 52)).alloc (Obj.cells #[.int .i64 17,.string { data:=#[] },.slice none 0 0,.slice none 0 0,.slice none 0 0,.slice (some ⟨w.heap.size + 1,0,none⟩) 1 1] 29)).alloc (Obj.cells #[.int .u8 8,.int .u8 8,.int .u8 58,.int .u8 17,.int .u8 98,.int .u8 15,.int .u8 10,.int .u8 1,.int .u8 121,.int .u8 18,.int .u8 10,.int .u8 10,.int .u8 8,.int .u8 8,.int .u8 1,.int .u8 18,.int .u8 4,.int .u8 10,.int .u8 2,.int .u8 8,.int .u8 2,.int .u8 66,.int .u8 2,.int .u8 16,.int .u8 17] 5))
 have X2:Hid (Box ((((w.alloc (Obj.cells #[.int .i64 2] 3)).alloc (Obj.cells #[.string { data:=#[121] },.int .i64 1,.slice (some ⟨w.heap.size,0,none⟩) 1 1] 52)).alloc (Obj.cells #[.int .i64 17,.string { data:=#[] },.slice none 0 0,.slice none 0 0,.slice none 0 0,.slice (some ⟨w.heap.size + 1,0,none⟩) 1 1] 29)).alloc (Obj.cells #[.int .u8 8,.int .u8 8,.int .u8 58,.int .u8 17,.int .u8 98,.int .u8 15,.int .u8 10,.int .u8 1,.int .u8 121,.int .u8 18,.int .u8 10,.int .u8 10,.int .u8 8,.int .u8 8,.int .u8 1,.int .u8 18,.int .u8 4,.int .u8 10,.int .u8 2,.int .u8 8,.int .u8 2,.int .u8 66,.int .u8 2,.int .u8 16,.int .u8 17] 5)) (w.heap.size + 1) #[.string { data:=#[121] },.int .i64 1,.slice (some ⟨w.heap.size,0,none⟩) 1 1] 52):=hide (by have h:=(((Box.new (w.alloc (Obj.cells #[.int .i64 2] 3)) #[.string { data:=#[121] },.int .i64 1,.slice (some ⟨w.heap.size,0,none⟩) 1 1] 52).alloc (Obj.cells #[.int .i64 17,.string { data:=#[] },.slice none 0 0,.slice none 0 0,.slice none 0 0,.slice (some ⟨w.heap.size + 1,0,none⟩) 1 1] 29)).alloc (Obj.cells #[.int .u8 8,.int .u8 8,.int .u8 58,.int .u8 17,.int .u8 98,.int .u8 15,.int .u8 10,.int .u8 1,.int .u8 121,.int .u8 18,.int .u8 10,.int .u8 10,.int .u8 8,.int .u8 8,.int .u8 1,.int .u8 18,.int .u8 4,.int .u8 10,.int .u8 2,.int .u8 8,.int .u8 2,.int .u8 66,.int .u8 2,.int .u8 16,.int .u8 17] 5)); rw [alloc_size6] at h; exact h)
 have X3:Hid (Box ((((w.alloc (Obj.cells #[.int .i64 2] 3)).alloc (Obj.cells #[.string { data:=#[121] },.int .i64 1,.slice (some ⟨w.heap.size,0,none⟩) 1 1] 52)).alloc (Obj.cells #[.int .i64 17,.string { data:=#[] },.slice none 0 0,.slice none 0 0,.slice none 0 0,.slice (some ⟨w.heap.size + 1,0,none⟩) 1 1] 29)).alloc (Obj.cells #[.int .u8 8,.int .u8 8,.int .u8 58,.int .u8 17,.int .u8 98,.int .u8 15,.int .u8 10,.int .u8 1,.int .u8 121,.int .u8 18,.int .u8 10,.int .u8 10,.int .u8 8,.int .u8 8,.int .u8 1,.int .u8 18,.int .u8 4,.int .u8 10,.int .u8 2,.int .u8 8,.int .u8 2,.int .u8 66,.int .u8 2,.int .u8 16,.int .u8 17] 5)) (w.heap.size + 1 + 1) #[.int .i64 17,.string { data:=#[] },.slice none 0 0,.slice none 0 0,.slice none 0 0,.slice (some ⟨w.heap.size + 1,0,none⟩) 1 1] 29):=hide (by have h:=((Box.new ((w.alloc (Obj.cells #[.int .i64 2] 3)).alloc (Obj.cells #[.string { data:=#[121] },.int .i64 1,.slice (some ⟨w.heap.size,0,none⟩) 1 1] 52)) #[.int .i64 17,.string { data:=#[] },.slice none 0 0,.slice none 0 0,.slice none 0 0,.slice (some ⟨w.heap.size + 1,0,none⟩) 1 1] 29).alloc (Obj.cells #[.int .u8 8,.int .u8 8,.int .u8 58,.int .u8 17,.int .u8 98,.int .u8 15,.int .u8 10,.int .u8 1,.int .u8 121,.int .u8 18,.int .u8 10,.int .u8 10,.int .u8 8,.int .u8 8,.int .u8 1,.int .u8 18,.int .u8 4,.int .u8 10,.int .u8 2,.int .u8 8,.int .u8 2,.int .u8 66,.int .u8 2,.int .u8 16,.int .u8 17] 5)); rw [alloc_size6,alloc_size6] at h; exact h)
 have X4:Hid (Box ((((w.alloc (Obj.cells #[.int .i64 2] 3)).alloc (Obj.cells #[.string { data:=#[121] },.int .i64 1,.slice (some ⟨w.heap.size,0,none⟩) 1 1] 52)).alloc (Obj.cells #[.int .i64 17,.string { data:=#[] },.slice none 0 0,.slice none 0 0,.slice none 0 0,.slice (some ⟨w.heap.size + 1,0,none⟩) 1 1] 29)).alloc (Obj.cells #[.int .u8 8,.int .u8 8,.int .u8 58,.int .u8 17,.int .u8 98,.int .u8 15,.int .u8 10,.int .u8 1,.int .u8 121,.int .u8 18,.int .u8 10,.int .u8 10,.int .u8 8,.int .u8 8,.int .u8 1,.int .u8 18,.int .u8 4,.int .u8 10,.int .u8 2,.int .u8 8,.int .u8 2,.int .u8 66,.int .u8 2,.int .u8 16,.int .u8 17] 5)) (w.heap.size + 1 + 1 + 1) #[.int .u8 8,.int .u8 8,.int .u8 58,.int .u8 17,.int .u8 98,.int .u8 15,.int .u8 10,.int .u8 1,.int .u8 121,.int .u8 18,.int .u8 10,.int .u8 10,.int .u8 8,.int .u8 8,.int .u8 1,.int .u8 18,.int .u8 4,.int .u8 10,.int .u8 2,.int .u8 8,.int .u8 2,.int .u8 66,.int .u8 2,.int .u8 16,.int .u8 17] 5):=hide (by have h:=Box.new (((w.alloc (Obj.cells #[.int .i64 2] 3)).alloc (Obj.cells #[.string { data:=#[121] },.int .i64 1,.slice (some ⟨w.heap.size,0,none⟩) 1 1] 52)).alloc (Obj.cells #[.int .i64 17,.string { data:=#[] },.slice none 0 0,.slice none 0 0,.slice none 0 0,.slice (some ⟨w.heap.size + 1,0,none⟩) 1 1] 29)) #[.int .u8 8,.int .u8 8,.int .u8 58,.int .u8 17,.int .u8 98,.int .u8 15,.int .u8 10,.int .u8 1,.int .u8 121,.int .u8 18,.int .u8 10,.int .u8 10,.int .u8 8,.int .u8 8,.int .u8 1,.int .u8 18,.int .u8 4,.int .u8 10,.int .u8 2,.int .u8 8,.int .u8 2,.int .u8 66,.int .u8 2,.int .u8 16,.int .u8 17] 5; rw [alloc_size6,alloc_size6,alloc_size6] at h; exact h)
 go_enter Tryz.func9,Tryz.ntmps9
 go_wp2_with fail
 generalize (((w.alloc (Obj.cells #[.int .i64 2] 3)).alloc (Obj.cells #[.string { data:=#[121] },.int .i64 1,.slice (some ⟨w.heap.size,0,none⟩) 1 1] 52)).alloc (Obj.cells #[.int .i64 17,.string { data:=#[] },.slice none 0 0,.slice none 0 0,.slice none 0 0,.slice (some ⟨w.heap.size + 1,0,none⟩) 1 1] 29)).alloc (Obj.cells #[.int .u8 8,.int .u8 8,.int .u8 58,.int .u8 17,.int .u8 98,.int .u8 15,.int .u8 10,.int .u8 1,.int .u8 121,.int .u8 18,.int .u8 10,.int .u8 10,.int .u8 8,.int .u8 8,.int .u8 1,.int .u8 18,.int .u8 4,.int .u8 10,.int .u8 2,.int .u8 8,.int .u8 2,.int .u8 66,.int .u8 2,.int .u8 16,.int .u8 17] 5) = W1 at B1 X1 X2 X3 X4 ⊢
 have MI:=hide (awM_in (uh X1) (uh X2))
 have IW:=hide (box_ints (uh X4) [8,8,58,17,98,15,10,1,121,18,10,10,8,8,1,18,4,10,2,8,2,66,2,16,17] rfl (by decide) (by decide))
 have CE:Hid (Calls Tryz.prog 18 #[.agg #[.int .i64 17,.string { data:=#[] },.slice none 0 0,.slice none 0 0,.slice none 0 0,.slice (some ⟨w.heap.size + 1,0,none⟩) 1 1]] W1 fun e w' => ∃ v,e = .returned (.tuple #[v,.int .i64 0]) ∧ OwnG 5 (Value.int .u8) W1 w' v [8,8,58,17,98,15,10,1,121,18,10,10,8,8,1,18,4,10,2,8,2,66,2,16,17]):=hide (by
  have h:=cencode_any (awM w) W1 (uh MI) ⟨fun x hx => (by cases hx),fun x hx => (by cases hx)⟩ (Nat.zero_le _)
  rw [show (awM w).d = (17,[],[],[],[],[([121],1,[2])]) from rfl,e1] at h
  exact h)
 have x3:=(uh X3).cell
 refine (uh CE).mono ?_
 rintro e w2 ⟨v2,rfl,hO⟩
 obtain ⟨q2,d2,hq2,hL2,_⟩:=hO.form
 subst hq2
 have SB:=hide (fun v (hv:Below w2.heap.size w2 v) => hL2.below hv)
 have B2:=hide (bl_tr (uh B1) hO.2)
 have IW2:=hide ((uh IW).below hO.2)
 have X32:=hide ((uh X3).below hO.2)
 have MI2:=hide ((uh MI).below hO.2)
 have l2:=(uh X32).lt
 clear hO hL2 CE x3
 have CD:Hid (Calls Tryz.prog 11 #[.slice (some ⟨w.heap.size + 1 + 1 + 1,0,none⟩) 25 25] w2 fun e w' => ∃ x:MoA,e = .returned (.tuple #[moV x,.int .i64 0]) ∧ Hid (x.d = (17,[],[],[],[],[([121],1,[2])]) ∧ MoIn 0 w' x ∧ Below w2.heap.size w2 w')):=hide (by
  have h:=cdecode_any _ _ [8,8,58,17,98,15,10,1,121,18,10,10,8,8,1,18,4,10,2,8,2,66,2,16,17] w2 (uh IW2)
  rw [e2] at h
  refine h.mono (fun e u hh => ?_)
  obtain ⟨x,he,hh⟩:=hh
  obtain ⟨⟨_,g1⟩,g2,g3⟩:=uh hh
  exact ⟨x,he,hide ⟨(g1 rfl).trans e3,g2,g3⟩⟩)
 go_wp2_with fail
 refine (uh CD).mono ?_
 rintro e w3 ⟨x,rfl,hq⟩
 obtain ⟨g1,g2,g3⟩:=uh hq
 have XD:=hide g1
 have MX:=hide g2
 have B3:=hide (bl_tr (uh B2) g3)
 have B23:=hide g3
 have X33:=hide ((uh X32).below g3)
 have MI3:=hide ((uh MI2).below g3)
 have IW3:=hide ((uh IW2).below g3)
 clear hq g1 g2 g3 CD
 obtain ⟨xops,xnm,xnodes,xqn,xcn,xinits,xqi,xci,xinp,xqp,xcp,xout,xqo,xco⟩:=x
 simp only [moV,moCells,strV]
 have BD:=hide (al1p w3 (Obj.cells #[.int .i64 xops,.string (strOfNums xnm),.slice xqn xnodes.length xcn,.slice xqi xinits.length xci,.slice xqp xinp.length xcp,.slice xqo xout.length xco] 29))
 have CN:Hid (Calls Tryz.prog 11 #[.slice none 0 0] (w3.alloc (Obj.cells #[.int .i64 xops,.string (strOfNums xnm),.slice xqn xnodes.length xcn,.slice xqi xinits.length xci,.slice xqp xinp.length xcp,.slice xqo xout.length xco] 29)) fun e w' => ∃ x:MoA,e = .returned (.tuple #[moV x,.int .i64 6]) ∧ Below (w3.alloc (Obj.cells #[.int .i64 xops,.string (strOfNums xnm),.slice xqn xnodes.length xcn,.slice xqi xinits.length xci,.slice xqp xinp.length xcp,.slice xqo xout.length xco] 29)).heap.size (w3.alloc (Obj.cells #[.int .i64 xops,.string (strOfNums xnm),.slice xqn xnodes.length xcn,.slice xqi xinits.length xci,.slice xqp xinp.length xcp,.slice xqo xout.length xco] 29)) w'):=hide (by
  have h:=cdecode_any none 0 [] (w3.alloc (Obj.cells #[.int .i64 xops,.string (strOfNums xnm),.slice xqn xnodes.length xcn,.slice xqi xinits.length xci,.slice xqp xinp.length xcp,.slice xqo xout.length xco] 29)) (nilInts _ _)
  rw [e4] at h
  refine h.mono (fun e u hh => ?_)
  obtain ⟨x,he,hh⟩:=hh
  exact ⟨x,he,(uh hh).2.2⟩)
 go_wp2_with fail
 refine (uh CN).mono ?_
 rintro e w4 ⟨y,rfl,hb4⟩
 have B34:=hide hb4
 clear hb4 CN
 obtain ⟨yops,ynm,ynodes,yqn,ycn,yinits,yqi,yci,yinp,yqp,ycp,yout,yqo,yco⟩:=y
 simp only [moV,moCells,strV]
 have BD4:=hide (al2p w4 (Obj.cells #[.int .i64 yops,.string (strOfNums ynm),.slice yqn ynodes.length ycn,.slice yqi yinits.length yci,.slice yqp yinp.length ycp,.slice yqo yout.length yco] 29) (Obj.cells #[.int .u8 58,.int .u8 0] 5))
 have RB4:Hid (Box ((w4.alloc (Obj.cells #[.int .i64 yops,.string (strOfNums ynm),.slice yqn ynodes.length ycn,.slice yqi yinits.length yci,.slice yqp yinp.length ycp,.slice yqo yout.length yco] 29)).alloc (Obj.cells #[.int .u8 58,.int .u8 0] 5)) (w4.heap.size + 1) #[.int .u8 58,.int .u8 0] 5):=hide (by have h:=Box.new (w4.alloc (Obj.cells #[.int .i64 yops,.string (strOfNums ynm),.slice yqn ynodes.length ycn,.slice yqi yinits.length yci,.slice yqp yinp.length ycp,.slice yqo yout.length yco] 29)) #[.int .u8 58,.int .u8 0] 5; rw [alloc_size6] at h; exact h)
 have C5:Hid (Calls Tryz.prog 11 #[.slice (some ⟨w4.heap.size + 1,0,none⟩) 2 2] ((w4.alloc (Obj.cells #[.int .i64 yops,.string (strOfNums ynm),.slice yqn ynodes.length ycn,.slice yqi yinits.length yci,.slice yqp yinp.length ycp,.slice yqo yout.length yco] 29)).alloc (Obj.cells #[.int .u8 58,.int .u8 0] 5)) fun e w' => ∃ x:MoA,e = .returned (.tuple #[moV x,.int .i64 7]) ∧ Below w4.heap.size w4 w'):=hide (by
  have h:=cdecode_any _ _ [58,0] _ (box_ints (uh RB4) [58,0] rfl (by decide) (by decide))
  rw [e5] at h
  refine h.mono (fun e u hh => ?_)
  obtain ⟨x,he,hh⟩:=hh
  exact ⟨x,he,bl_tr (uh BD4) (uh hh).2.2⟩)
 go_wp2_with fail
 refine (uh C5).mono ?_
 rintro e w5 ⟨z,rfl,hb5⟩
 have B35:=hide (bl_tr (uh B34) hb5)
 clear hb5 C5 RB4 BD4
 obtain ⟨zops,znm,znodes,zqn,zcn,zinits,zqi,zci,zinp,zqp,zcp,zout,zqo,zco⟩:=z
 simp only [moV,moCells,strV]
 have RB5:Hid (Box ((w5.alloc (Obj.cells #[.int .i64 zops,.string (strOfNums znm),.slice zqn znodes.length zcn,.slice zqi zinits.length zci,.slice zqp zinp.length zcp,.slice zqo zout.length zco] 29)).alloc (Obj.cells #[.int .i64 2,.int .i64 3] 3)) (w5.heap.size + 1) #[.int .i64 2,.int .i64 3] 3):=hide (by have h:=Box.new (w5.alloc (Obj.cells #[.int .i64 zops,.string (strOfNums znm),.slice zqn znodes.length zcn,.slice zqi zinits.length zci,.slice zqp zinp.length zcp,.slice zqo zout.length zco] 29)) #[.int .i64 2,.int .i64 3] 3; rw [alloc_size6] at h; exact h)
 have C6:Hid (Calls Tryz.prog 21 #[.slice (some ⟨w5.heap.size + 1,0,none⟩) 2 2] ((w5.alloc (Obj.cells #[.int .i64 zops,.string (strOfNums znm),.slice zqn znodes.length zcn,.slice zqi zinits.length zci,.slice zqp zinp.length zcp,.slice zqo zout.length zco] 29)).alloc (Obj.cells #[.int .i64 2,.int .i64 3] 3)) fun e w' => e = .returned (.tuple #[.int .i64 6,.int .i64 0]) ∧ w' = ((w5.alloc (Obj.cells #[.int .i64 zops,.string (strOfNums znm),.slice zqn znodes.length zcn,.slice zqi zinits.length zci,.slice zqp zinp.length zcp,.slice zqo zout.length zco] 29)).alloc (Obj.cells #[.int .i64 2,.int .i64 3] 3))):=hide (by
  have h:=ccount_any _ _ [2,3] _ (box_i64 (uh RB5) [2,3] rfl (by decide) (by decide))
  rw [e6] at h
  exact h)
 go_wp2_with fail
 refine (uh C6).mono ?_
 rintro e v ⟨rfl,rfl⟩
 have RB6:Hid (Box (((w5.alloc (Obj.cells #[.int .i64 zops,.string (strOfNums znm),.slice zqn znodes.length zcn,.slice zqi zinits.length zci,.slice zqp zinp.length zcp,.slice zqo zout.length zco] 29)).alloc (Obj.cells #[.int .i64 2,.int .i64 3] 3)).alloc (Obj.cells #[.int .i64 4097] 3)) (w5.heap.size + 1 + 1) #[.int .i64 4097] 3):=hide (by have h:=Box.new ((w5.alloc (Obj.cells #[.int .i64 zops,.string (strOfNums znm),.slice zqn znodes.length zcn,.slice zqi zinits.length zci,.slice zqp zinp.length zcp,.slice zqo zout.length zco] 29)).alloc (Obj.cells #[.int .i64 2,.int .i64 3] 3)) #[.int .i64 4097] 3; rw [alloc_size6,alloc_size6] at h; exact h)
 have C7:Hid (Calls Tryz.prog 21 #[.slice (some ⟨w5.heap.size + 1 + 1,0,none⟩) 1 1] (((w5.alloc (Obj.cells #[.int .i64 zops,.string (strOfNums znm),.slice zqn znodes.length zcn,.slice zqi zinits.length zci,.slice zqp zinp.length zcp,.slice zqo zout.length zco] 29)).alloc (Obj.cells #[.int .i64 2,.int .i64 3] 3)).alloc (Obj.cells #[.int .i64 4097] 3)) fun e w' => e = .returned (.tuple #[.int .i64 0,.int .i64 8]) ∧ w' = (((w5.alloc (Obj.cells #[.int .i64 zops,.string (strOfNums znm),.slice zqn znodes.length zcn,.slice zqi zinits.length zci,.slice zqp zinp.length zcp,.slice zqo zout.length zco] 29)).alloc (Obj.cells #[.int .i64 2,.int .i64 3] 3)).alloc (Obj.cells #[.int .i64 4097] 3))):=hide (by
  have h:=ccount_any _ _ [4097] _ (box_i64 (uh RB6) [4097] rfl (by decide) (by decide))
  rw [e7] at h
  exact h)
 clear C6 RB5
 go_wp2_with fail
 refine (uh C7).mono ?_
 rintro e v ⟨rfl,rfl⟩
 have B36:=hide (bl_tr (uh B35) (al3p w5 (Obj.cells #[.int .i64 zops,.string (strOfNums znm),.slice zqn znodes.length zcn,.slice zqi zinits.length zci,.slice zqp zinp.length zcp,.slice zqo zout.length zco] 29) (Obj.cells #[.int .i64 2,.int .i64 3] 3) (Obj.cells #[.int .i64 4097] 3)))
 clear C7 RB6 B34 B35 e1 e2 e3 e4 e5 e6 e7
 generalize ((w5.alloc (Obj.cells #[.int .i64 zops,.string (strOfNums znm),.slice zqn znodes.length zcn,.slice zqi zinits.length zci,.slice zqp zinp.length zcp,.slice zqo zout.length zco] 29)).alloc (Obj.cells #[.int .i64 2,.int .i64 3] 3)).alloc (Obj.cells #[.int .i64 4097] 3) = W6 at B36 ⊢
 have CB:Hid (Calls Tryz.prog 20 #[.slice q2 25 d2,.slice (some ⟨w.heap.size + 1 + 1 + 1,0,none⟩) 25 25] W6 fun e w' => e = .returned (.bool true) ∧ Below W6.heap.size W6 w'):=hide (by
  have h:=rsameb_any q2 (some ⟨w.heap.size + 1 + 1 + 1,0,none⟩) d2 25 [8,8,58,17,98,15,10,1,121,18,10,10,8,8,1,18,4,10,2,8,2,66,2,16,17] [8,8,58,17,98,15,10,1,121,18,10,10,8,8,1,18,4,10,2,8,2,66,2,16,17] W6 ((uh SB W6 (bl_tr (uh B23) (bl_tr (uh BD) (uh B36)))).ints (by decide)) ((uh IW3).below (bl_tr (uh BD) (uh B36)))
  rw [show decide (([8,8,58,17,98,15,10,1,121,18,10,10,8,8,1,18,4,10,2,8,2,66,2,16,17]:List Int) = [8,8,58,17,98,15,10,1,121,18,10,10,8,8,1,18,4,10,2,8,2,66,2,16,17]) = true from decide_eq_true rfl] at h
  exact h)
 go_wp2_with fail
 refine (uh CB).mono ?_
 rintro e w7 ⟨rfl,hb7⟩
 have B37:=hide (bl_tr (uh B36) hb7)
 have B37':=hide (bl_tr (uh BD) (uh B37))
 have NX:=hide ((Box.new w3 #[.int .i64 xops,.string (strOfNums xnm),.slice xqn xnodes.length xcn,.slice xqi xinits.length xci,.slice xqp xinp.length xcp,.slice xqo xout.length xco] 29).below (uh B37))
 have X37:=hide ((uh X33).below (uh B37'))
 have CS:Hid (Calls Tryz.prog 13 #[.agg #[.int .i64 xops,.string (strOfNums xnm),.slice xqn xnodes.length xcn,.slice xqi xinits.length xci,.slice xqp xinp.length xcp,.slice xqo xout.length xco],.agg #[.int .i64 17,.string { data:=#[] },.slice none 0 0,.slice none 0 0,.slice none 0 0,.slice (some ⟨w.heap.size + 1,0,none⟩) 1 1]] w7 fun e w' => e = .returned (.bool true) ∧ Below w7.heap.size w7 w'):=hide (rmodel_true ⟨xops,xnm,xnodes,xqn,xcn,xinits,xqi,xci,xinp,xqp,xcp,xout,xqo,xco⟩ (awM w) w7 ((uh MX).below (uh B37')) ((uh MI3).below (uh B37')) (uh XD))
 have nx:=(uh NX).cell
 have x37:=(uh X37).cell
 clear hb7
 go_wp2_with fail
 refine (uh CS).mono ?_
 rintro e w8 ⟨rfl,hb8⟩
 have B8:=hide (bl_tr (uh B3) (bl_tr (uh B37') hb8))
 clear hb8 nx x37
 go_wp2_with fail
 go_ret
 exact ⟨rfl,uh B8⟩
theorem i64_ok {x:Int} (h:(Lit.int .i64 x).wf = true):i64B x:=by
 simp [Lit.wf,IntKind.min,IntKind.max,IntKind.signed,IntKind.bits] at h
 exact ⟨by omega,by omega⟩
theorem u32_ok {x:Int} (h:(Lit.int .u32 x).wf = true):0 ≤ x ∧ x < 4294967296:=by
 simp [Lit.wf,IntKind.min,IntKind.max,IntKind.signed,IntKind.bits] at h
 exact ⟨by omega,by omega⟩
theorem ten_ok7 {B:Nat} {w:World} {T:Ten} {A:TA} (h:TenT B w T A):okT T :=
 ⟨i64_ok h.1.1,fun x hx => i64_ok (h.1.2.1.2.2.1 x hx),fun x hx => u32_ok (h.1.2.2.1.2.2.1 x hx),fun x hx => i64_ok (h.1.2.2.2.1.2.2.1 x hx)⟩
theorem at_ok7 {B:Nat} {w:World} {a:AtA} (h:AtIn B w a):okA a.d:=by
 obtain ⟨h1,h2,h3,h4,h5,h6,⟨h7,h8⟩,h9,h10⟩:=h
 exact ⟨h1,i64_ok h2,u32_ok h3,i64_ok h4,h5,ten_ok7 h6,fun x hx => u32_ok (h7.2.2.1 x hx),fun x hx => i64_ok (h9.2.2.1 x hx)⟩
theorem no_ok7 {B:Nat} {w:World} {a:NoA} (h:NoIn B w a):okN a.d:=by
 obtain ⟨h1,h2,⟨h3,h4,h5⟩,⟨h6,h7,h8⟩,h9,h10,h11⟩:=h
 refine ⟨h1,h2,h3,h6,fun x hx => ?_⟩
 obtain ⟨y,hy,rfl⟩:=List.mem_map.1 hx
 exact at_ok7 (h9 y hy)
theorem va_ok7 {B:Nat} {w:World} {a:VaA} (h:VaIn B w a):okV a.d:=⟨h.1,i64_ok h.2.1,fun x hx => i64_ok (h.2.2.1.2.2.1 x hx)⟩
theorem mo_ok7 {B:Nat} {w:World} {a:MoA} (h:MoIn B w a):okM a.d:=by
 obtain ⟨h1,h2,⟨a1,a2,a3⟩,⟨b1,b2,b3⟩,⟨c1,c2,c3⟩,d1,d2,d3⟩:=h
 refine ⟨h2,fun x hx => ?_,fun x hx => ?_,fun x hx => ?_,fun x hx => ?_⟩
 ·obtain ⟨y,hy,rfl⟩:=List.mem_map.1 hx
  exact no_ok7 (a1 y hy)
 ·obtain ⟨y,hy,rfl⟩:=List.mem_map.1 hx
  exact ⟨(b1 y hy).1,ten_ok7 (b1 y hy).2⟩
 ·obtain ⟨y,hy,rfl⟩:=List.mem_map.1 hx
  exact va_ok7 (c1 y hy)
 ·obtain ⟨y,hy,rfl⟩:=List.mem_map.1 hx
  exact va_ok7 (d1 y hy)
theorem enc_isB {m:ModelD} (ho:okM m) (h:(encodeV m).2 = 0):isB (encodeV m).1:=by
 obtain ⟨hw,hl,he⟩:=encode_ok h
 rw [he]
 exact msg_isB7 (model_wr ho hl) (by omega)
theorem enc_no {m:ModelD} (h:(encodeV m).2 ≠ 0):(encodeV m).1 = [] ∧ ((encodeV m).2 = checkM m ∨ checkM m = 0 ∧ (encodeV m).2 = 8):=by
 unfold encodeV at h ⊢
 by_cases h1:checkM m = 0
 ·rw [if_pos h1] at h ⊢
  by_cases h2:4194304 < (msgB (modelF m)).length
  ·rw [if_pos h2]; exact ⟨rfl,.inr ⟨h1,rfl⟩⟩
  ·rw [if_neg h2] at h; exact absurd (show ((msgB (modelF m),0):List Int × Int).2 = 0 from rfl) h
 ·rw [if_neg h1]; exact ⟨rfl,.inl rfl⟩
theorem Rc.tag {β:Type} {k:Nat} {cells:β → List Value} {z:β} {w:World} {p:Option Addr} {cap:Nat} {l:List β} (t:TypeId) (h:Rc k cells z w p cap l):Tag t w.heap.size w p l.length:=fun hp => by
 obtain ⟨b,o,e,hb,_⟩:=h.lies hp
 exact ⟨b,o,e,hb,.inl hb⟩
theorem Ints.tag {k:IntKind} {w:World} {p:Option Addr} {cap:Nat} {xs:List Int} (t:TypeId) (h:Ints k w p cap xs):Tag t w.heap.size w p xs.length:=fun hp => by
 obtain ⟨b,o,e,hb,_⟩:=h.lies hp
 exact ⟨b,o,e,hb,.inl hb⟩
theorem Ls.tag {α:Type} [Inhabited α] {f:α → Value} {w:World} {p:Option Addr} {cap:Nat} {xs:List α} (t:TypeId) (h:Ls f w p cap xs):Tag t w.heap.size w p xs.length:=fun hp => by
 obtain ⟨b,o,e,hb,_⟩:=h.lies hp
 exact ⟨b,o,e,hb,.inl hb⟩
theorem str_of (s:ByteArray):∃ x:Str,isB x ∧ s = strOfNums x:=by
 refine ⟨s.data.toList.map fun b => (b.toNat:Int),fun c hc => ?_,?_⟩
 ·obtain ⟨b,_,rfl⟩:=List.mem_map.1 hc
  have:=b.toNat_lt
  exact ⟨by omega,by omega⟩
 ·obtain ⟨⟨l⟩⟩:=s
  have e:((fun n:Int => UInt8.ofNat n.toNat) ∘ fun b:UInt8 => (b.toNat:Int)) = id:=by
   funext b
   simp
  unfold strOfNums
  congr 1
  simp only [List.map_map]
  rw [e]
  simp
theorem part_str {H:Type} {enc:TypeId × Value → H} {P:Program} {W:World} {n:Nat} {t:TypeId} {cs:List Value} {y:DataW H × List MemPlace} (ht:P.underlying t = some .string)
  (h:DataW.trod enc P W 0 (fun _ => true) true n t cs = some y):∃ s:Str,cs = [strV s] ∧ isB s:=by
 obtain ⟨s,h1,_,_⟩:=DataW.trod_string ht h
 obtain ⟨x,hx,rfl⟩:=str_of s
 exact ⟨x,h1,hx⟩
theorem part_strs {H:Type} {enc:TypeId × Value → H} {P:Program} {W:World} {n:Nat} {t e:TypeId} {cs:List Value} {y:DataW H × List MemPlace} (ht:P.underlying t = some (.slice e)) (he:P.underlying e = some .string) (hc:P.cellsOf e = 1)
  (h:DataW.trod enc P W 0 (fun _ => true) true n t cs = some y) :
  ∃ p cap,∃ xs:List Str,cs = [.slice p xs.length cap] ∧ (∀ s ∈ xs,isB s) ∧ Ls strV W p cap xs:=by
 rcases Go.Deep.open_strs ht he hc h with ⟨hcs,hx⟩ | ⟨a,len,cap,m,Sx,hcs,_,hle,hmax,hm,hx,hcell⟩
 ·subst hcs
  exact ⟨none,0,[],rfl,fun s hs => (by cases hs),Ls.nil _⟩
 ·subst hcs
  simp only [if_true] at hm
  subst hm
  obtain ⟨f,hf⟩:=Go.Deep.choose_lt (α:=Str) (p:=fun i x => isB x ∧ Sx i = strOfNums x) (fun i (hi:i < m) => str_of (Sx i))
  have hl:((List.range len).map f).length = len:=by simp
  have hget:∀ i,i < len → ((List.range len).map f).getD i default = f i:=fun i hi => by
   rw [List.getD_eq_getElem?_getD,List.getElem?_map,List.getElem?_range hi]; rfl
  refine ⟨some a,m,(List.range len).map f,by rw [hl],fun s hs => ?_,by omega,hmax,fun hp => ?_,fun h => by cases h⟩
  ·obtain ⟨i,hi,rfl⟩:=List.mem_map.1 hs
   exact (hf i (by have:=List.mem_range.1 hi; omega)).1
  ·rw [hl] at hp
   obtain ⟨b,off,spot⟩:=a
   have h00:=(hcell 0 (by omega)).1
   have hspot:spot = none:=by simpa [Addr.add] using World.cell?_spot h00
   subst hspot
   have key:∀ i,i < m → W.cell? ⟨b,off + i,none⟩ = some (.string (Sx i)):=fun i hi => by
    have:=(hcell i hi).1
    rw [Go.WideShapes.add_plain] at this
    exact this
   refine ⟨b,off,rfl,?_,fun i hi => ?_⟩
   ·have h0:=key 0 (by omega)
    rcases Nat.lt_or_ge b W.heap.size with g | g
    ·exact g
    ·exfalso
     have hn:W.heap[b]? = none:=by simp [g]
     simp [World.cell?,hn] at h0
   ·rw [hl] at hi
    rw [hget i hi,key i (by omega),(hf i (by omega)).2]
    rfl
theorem part_rows {H:Type} {enc:TypeId × Value → H} {P:Program} {W:World} {n:Nat} {t e:TypeId} {cs:List Value} {y:DataW H × List MemPlace} {β:Type} {k:Nat} {cells:β → List Value} {z:β} {In Sm:β → Prop} (hk:Wd k cells)
  (ht:P.underlying t = some (.slice e)) (hc:P.cellsOf e = k)
  (hel:∀ (n:Nat) (cs:List Value) (y:DataW H × List MemPlace),DataW.trod enc P W 0 (fun _ => true) true n e cs = some y → ∃ a,cs = cells a ∧ In a ∧ ((∀ m ∈ y.1.weights P e,m ≤ reachBytes) → Sm a))
  (h:DataW.trod enc P W 0 (fun _ => true) true n t cs = some y) :
  ∃ p cap,∃ L:List β,cs = [.slice p L.length cap] ∧ Rc k cells z W p cap L ∧ (∀ a ∈ L,In a) ∧ ((∀ m ∈ y.1.weights P t,m ≤ reachBytes) → (∀ a ∈ L,Sm a) ∧ cap * P.bytesOf e ≤ reachBytes):=by
 rcases Go.Deep.open_slice ht h with ⟨hcs,hx⟩ | ⟨a,len,cap,m,n,D,Pl,hcs,_,hle,hmax,hm,hx,hall⟩
 ·subst hcs
  exact ⟨none,0,[],rfl,Rc.nil _,fun a ha => (by cases ha),fun _ => ⟨fun a ha => (by cases ha),by simp⟩⟩
 ·subst hcs
  simp only [if_true] at hm
  subst hm
  rw [hc] at hall
  have hall2:∀ i,i < m → ∃ f:β,(∀ j u,(cells f)[j]? = some u → W.cell? ((a.add (i * k)).add j) = some u) ∧ In f ∧ ((∀ m ∈ (D i).weights P e,m ≤ reachBytes) → Sm f):=fun i hi => by
   obtain ⟨cs,h1,h2⟩:=hall i hi
   obtain ⟨f,rfl,g1,g2⟩:=hel _ _ _ h2
   refine ⟨f,fun j u hu => ?_,g1,g2⟩
   obtain ⟨_,_,hc⟩:=World.cells?_some h1
   have hj:j < k:=by
    have:=(List.getElem?_eq_some_iff.1 hu).1
    rw [hk.2.1] at this; exact this
   exact (hc j hj).trans hu
  haveI:Inhabited β:=⟨z⟩
  obtain ⟨f,hf2⟩:=Go.Deep.choose_lt hall2
  have hl:((List.range len).map f).length = len:=by simp
  have hget:∀ i,i < len → ((List.range len).map f).getD i z = f i:=fun i hi => by
   rw [List.getD_eq_getElem?_getD,List.getElem?_map,List.getElem?_range hi]; rfl
  refine ⟨some a,m,(List.range len).map f,by rw [hl],⟨by rw [hl]; exact hle,hmax,fun hp => ?_,fun h => by cases h⟩,fun x hx => ?_,fun hw => ⟨fun x hx2 => ?_,?_⟩⟩
  ·rw [hl] at hp
   obtain ⟨b,off,spot⟩:=a
   have u0:∃ u,(cells (f 0))[0]? = some u:=by
    have:=hk.2.1 (f 0)
    exact ⟨(cells (f 0))[0]'(by rw [this]; exact hk.1),List.getElem?_eq_getElem _⟩
   obtain ⟨u,hu0⟩:=u0
   have h00:=(hf2 0 (by omega)).1 0 u hu0
   have hspot:spot = none:=by simpa [Addr.add] using World.cell?_spot h00
   subst hspot
   have key:∀ i,i < m → ∀ j u,(cells (f i))[j]? = some u → W.cell? ⟨b,off + i * k + j,none⟩ = some u:=fun i hi j u hu => by
    have:=(hf2 i hi).1 j u hu
    rw [Go.WideShapes.add_plain,Go.WideShapes.add_plain] at this
    exact this
   refine ⟨b,off,rfl,?_,fun i hi j u hu => ?_⟩
   ·have h0:=key 0 (by omega) 0 u hu0
    rcases Nat.lt_or_ge b W.heap.size with g | g
    ·exact g
    ·exfalso
     have hn:W.heap[b]? = none:=by simp [g]
     simp [World.cell?,hn] at h0
   ·rw [hl] at hi
    rw [hget i hi] at hu
    exact key i (by omega) j u hu
  ·obtain ⟨i,hi,rfl⟩:=List.mem_map.1 hx
   exact (hf2 i (by have:=List.mem_range.1 hi; omega)).2.1
  ·obtain ⟨i,hi,rfl⟩:=List.mem_map.1 hx2
   refine (hf2 i (by have:=List.mem_range.1 hi; omega)).2.2 fun q hq => hw q ?_
   rw [hx]
   simp only
   rw [DataW.weights,ht]
   refine List.mem_cons_of_mem _ (List.mem_append_left _ ?_)
   exact weights_mem_all (List.mem_map.2 ⟨i,hi,rfl⟩) q hq
  ·rw [hx] at hw
   simp only at hw
   rw [DataW.weights,ht] at hw
   have h1:=hw _ List.mem_cons_self
   simp only [List.length_map,List.length_range] at h1
   rw [show len + (m - len) = m by omega] at h1
   exact h1
theorem ten_part {H:Type} {enc:TypeId × Value → H} {W:World} {n:Nat} {cs:List Value} {y:DataW H × List MemPlace} (h:DataW.trod enc Tryz.prog W 0 (fun _ => true) true n 80 cs = some y) :
  ∃ T A,cs = (tenCells T A).toList ∧ TenT W.heap.size W T A ∧ ((∀ m ∈ y.1.weights Tryz.prog 80,m ≤ reachBytes) → TenSm T):=by
 obtain ⟨xs,n,_,hx,hsz,hlen,hfs⟩:=DataW.trod_struct Tryz.underlying80 h
 rw [show Tryz.prog.cellsOf 80 = 5 by kernel_rfl] at hsz
 match cs,hsz with
 | [v0,v1,v2,v3,v4],_ =>
   match xs,hlen with
   | [y0,y1,y2,y3,y4],_ =>
     have h0:=hfs 0 _ rfl
     change DataW.trod enc Tryz.prog W 0 (fun _ => true) true n 3 (([v0,v1,v2,v3,v4].drop 0).take (Tryz.prog.cellsOf 3)) = some y0 at h0
     rw [show Tryz.prog.cellsOf 3 = 1 by kernel_rfl] at h0
     change DataW.trod enc Tryz.prog W 0 (fun _ => true) true n 3 [v0] = some y0 at h0
     have h1:=hfs 1 _ rfl
     change DataW.trod enc Tryz.prog W 0 (fun _ => true) true n 41 (([v0,v1,v2,v3,v4].drop 1).take (Tryz.prog.cellsOf 41)) = some y1 at h1
     rw [show Tryz.prog.cellsOf 41 = 1 by kernel_rfl] at h1
     change DataW.trod enc Tryz.prog W 0 (fun _ => true) true n 41 [v1] = some y1 at h1
     have h2:=hfs 2 _ rfl
     change DataW.trod enc Tryz.prog W 0 (fun _ => true) true n 76 (([v0,v1,v2,v3,v4].drop 2).take (Tryz.prog.cellsOf 76)) = some y2 at h2
     rw [show Tryz.prog.cellsOf 76 = 1 by kernel_rfl] at h2
     change DataW.trod enc Tryz.prog W 0 (fun _ => true) true n 76 [v2] = some y2 at h2
     have h3:=hfs 3 _ rfl
     change DataW.trod enc Tryz.prog W 0 (fun _ => true) true n 77 (([v0,v1,v2,v3,v4].drop 3).take (Tryz.prog.cellsOf 77)) = some y3 at h3
     rw [show Tryz.prog.cellsOf 77 = 1 by kernel_rfl] at h3
     change DataW.trod enc Tryz.prog W 0 (fun _ => true) true n 77 [v3] = some y3 at h3
     have h4:=hfs 4 _ rfl
     change DataW.trod enc Tryz.prog W 0 (fun _ => true) true n 78 (([v0,v1,v2,v3,v4].drop 4).take (Tryz.prog.cellsOf 78)) = some y4 at h4
     rw [show Tryz.prog.cellsOf 78 = 1 by kernel_rfl] at h4
     change DataW.trod enc Tryz.prog W 0 (fun _ => true) true n 78 [v4] = some y4 at h4
     obtain ⟨a0,e0,f0,w0⟩:=DataW.trod_int Tryz.underlying3 h0
     obtain ⟨p1,c1,x1,e1,i1,k1⟩:=part_ints Tryz.underlying41 Tryz.underlying3 (by kernel_rfl) h1
     obtain ⟨p2,c2,x2,e2,i2,k2⟩:=part_ints Tryz.underlying76 Tryz.underlying84 (by kernel_rfl) h2
     obtain ⟨p3,c3,x3,e3,i3,k3⟩:=part_ints Tryz.underlying77 Tryz.underlying2 (by kernel_rfl) h3
     obtain ⟨p4,c4,x4,e4,i4,k4⟩:=part_bools Tryz.underlying78 Tryz.underlying4 (by kernel_rfl) h4
     simp only [List.cons.injEq,and_true] at e0 e1 e2 e3 e4
     subst e0 e1 e2 e3 e4
     have hw2:(∀ m ∈ y.1.weights Tryz.prog 80,m ≤ reachBytes) → ∀ m ∈ DataW.weightsEach Tryz.prog [3,41,76,77,78] [y0.1,y1.1,y2.1,y3.1,y4.1],m ≤ reachBytes:=by
      intro hw m hm
      apply hw m
      rw [hx]
      simp only [DataW.weights,Tryz.underlying80]
      exact hm
     simp only [DataW.weightsEach,List.mem_append] at hw2
     refine ⟨(a0,x1,x2,x3,x4),⟨p1,c1,p2,c2,p3,c3,p4,c4⟩,rfl,⟨⟨w0,i1,i2,i3,i4⟩,i1.tag _,i2.tag _,i3.tag _,i4.tag _⟩,fun hw => ?_⟩
     rw [show Tryz.prog.bytesOf 3 = 8 by kernel_rfl] at k1
     rw [show Tryz.prog.bytesOf 84 = 4 by kernel_rfl] at k2
     rw [show Tryz.prog.bytesOf 2 = 8 by kernel_rfl] at k3
     rw [show Tryz.prog.bytesOf 4 = 1 by kernel_rfl] at k4
     have q1:=k1 (fun m hm => hw2 hw m (by simp [hm]))
     have q2:=k2 (fun m hm => hw2 hw m (by simp [hm]))
     have q3:=k3 (fun m hm => hw2 hw m (by simp [hm]))
     have q4:=k4 (fun m hm => hw2 hw m (by simp [hm]))
     have l1:=i1.1
     have l2:=i2.1
     have l3:=i3.1
     have l4:=i4.1
     unfold reachBytes at q1 q2 q3 q4
     exact ⟨by simp only; omega,by simp only; omega,by simp only; omega,by simp only; omega⟩
theorem va_part {H:Type} {enc:TypeId × Value → H} {W:World} {n:Nat} {cs:List Value} {y:DataW H × List MemPlace} (h:DataW.trod enc Tryz.prog W 0 (fun _ => true) true n 52 cs = some y) :
  ∃ a:VaA,cs = vaCells a ∧ VaIn W.heap.size W a ∧ ((∀ m ∈ y.1.weights Tryz.prog 52,m ≤ reachBytes) → True):=by
 obtain ⟨xs,n,_,hx,hsz,hlen,hfs⟩:=DataW.trod_struct Tryz.underlying52 h
 rw [show Tryz.prog.cellsOf 52 = 3 by kernel_rfl] at hsz
 match cs,hsz with
 | [v0,v1,v2],_ =>
   match xs,hlen with
   | [y0,y1,y2],_ =>
     have h0:=hfs 0 _ rfl
     change DataW.trod enc Tryz.prog W 0 (fun _ => true) true n 9 (([v0,v1,v2].drop 0).take (Tryz.prog.cellsOf 9)) = some y0 at h0
     rw [show Tryz.prog.cellsOf 9 = 1 by kernel_rfl] at h0
     change DataW.trod enc Tryz.prog W 0 (fun _ => true) true n 9 [v0] = some y0 at h0
     have h1:=hfs 1 _ rfl
     change DataW.trod enc Tryz.prog W 0 (fun _ => true) true n 3 (([v0,v1,v2].drop 1).take (Tryz.prog.cellsOf 3)) = some y1 at h1
     rw [show Tryz.prog.cellsOf 3 = 1 by kernel_rfl] at h1
     change DataW.trod enc Tryz.prog W 0 (fun _ => true) true n 3 [v1] = some y1 at h1
     have h2:=hfs 2 _ rfl
     change DataW.trod enc Tryz.prog W 0 (fun _ => true) true n 41 (([v0,v1,v2].drop 2).take (Tryz.prog.cellsOf 41)) = some y2 at h2
     rw [show Tryz.prog.cellsOf 41 = 1 by kernel_rfl] at h2
     change DataW.trod enc Tryz.prog W 0 (fun _ => true) true n 41 [v2] = some y2 at h2
     obtain ⟨a0,e0,w0⟩:=part_str Tryz.underlying9 h0
     obtain ⟨a1,e1,f1,w1⟩:=DataW.trod_int Tryz.underlying3 h1
     obtain ⟨p2,c2,x2,e2,i2,k2⟩:=part_ints Tryz.underlying41 Tryz.underlying3 (by kernel_rfl) h2
     simp only [List.cons.injEq,and_true] at e0 e1 e2
     subst e0 e1 e2
     have hw2:(∀ m ∈ y.1.weights Tryz.prog 52,m ≤ reachBytes) → ∀ m ∈ DataW.weightsEach Tryz.prog [9,3,41] [y0.1,y1.1,y2.1],m ≤ reachBytes:=by
      intro hw m hm
      apply hw m
      rw [hx]
      simp only [DataW.weights,Tryz.underlying52]
      exact hm
     simp only [DataW.weightsEach,List.mem_append] at hw2
     exact ⟨⟨a0,a1,x2,p2,c2⟩,rfl,⟨w0,w1,i2,i2.tag _⟩,fun _ => trivial⟩
theorem in_part {H:Type} {enc:TypeId × Value → H} {W:World} {n:Nat} {cs:List Value} {y:DataW H × List MemPlace} (h:DataW.trod enc Tryz.prog W 0 (fun _ => true) true n 82 cs = some y) :
  ∃ a:InA,cs = inCells a ∧ InIn W.heap.size W a ∧ ((∀ m ∈ y.1.weights Tryz.prog 82,m ≤ reachBytes) → TenSm a.T):=by
 obtain ⟨xs,n,_,hx,hsz,hlen,hfs⟩:=DataW.trod_struct Tryz.underlying82 h
 rw [show Tryz.prog.cellsOf 82 = 6 by kernel_rfl] at hsz
 match cs,hsz with
 | [v0,v1,v2,v3,v4,v5],_ =>
   match xs,hlen with
   | [y0,y1],_ =>
     have h0:=hfs 0 _ rfl
     change DataW.trod enc Tryz.prog W 0 (fun _ => true) true n 9 (([v0,v1,v2,v3,v4,v5].drop 0).take (Tryz.prog.cellsOf 9)) = some y0 at h0
     rw [show Tryz.prog.cellsOf 9 = 1 by kernel_rfl] at h0
     change DataW.trod enc Tryz.prog W 0 (fun _ => true) true n 9 [v0] = some y0 at h0
     have h1:=hfs 1 _ rfl
     change DataW.trod enc Tryz.prog W 0 (fun _ => true) true n 80 (([v0,v1,v2,v3,v4,v5].drop 1).take (Tryz.prog.cellsOf 80)) = some y1 at h1
     rw [show Tryz.prog.cellsOf 80 = 5 by kernel_rfl] at h1
     change DataW.trod enc Tryz.prog W 0 (fun _ => true) true n 80 [v1,v2,v3,v4,v5] = some y1 at h1
     obtain ⟨a0,e0,w0⟩:=part_str Tryz.underlying9 h0
     obtain ⟨T1,A1,e1,i1,k1⟩:=ten_part h1
     simp only [List.cons.injEq,and_true] at e0
     subst e0
     have hw2:(∀ m ∈ y.1.weights Tryz.prog 82,m ≤ reachBytes) → ∀ m ∈ DataW.weightsEach Tryz.prog [9,80] [y0.1,y1.1],m ≤ reachBytes:=by
      intro hw m hm
      apply hw m
      rw [hx]
      simp only [DataW.weights,Tryz.underlying82]
      exact hm
     simp only [DataW.weightsEach,List.mem_append] at hw2
     refine ⟨⟨a0,T1,A1⟩,?_,⟨w0,i1⟩,fun hw => k1 (fun m hm => hw2 hw m (by simp [hm]))⟩
     show _ = strV a0 :: (tenCells T1 A1).toList
     rw [← e1]
theorem at_part {H:Type} {enc:TypeId × Value → H} {W:World} {n:Nat} {cs:List Value} {y:DataW H × List MemPlace} (h:DataW.trod enc Tryz.prog W 0 (fun _ => true) true n 86 cs = some y) :
  ∃ a:AtA,cs = atCells a ∧ AtIn W.heap.size W a ∧ ((∀ m ∈ y.1.weights Tryz.prog 86,m ≤ reachBytes) → TenSm a.T):=by
 obtain ⟨xs,n,_,hx,hsz,hlen,hfs⟩:=DataW.trod_struct Tryz.underlying86 h
 rw [show Tryz.prog.cellsOf 86 = 12 by kernel_rfl] at hsz
 match cs,hsz with
 | [v0,v1,v2,v3,v4,v5,v6,v7,v8,v9,v10,v11],_ =>
   match xs,hlen with
   | [y0,y1,y2,y3,y4,y5,y6,y7],_ =>
     have h0:=hfs 0 _ rfl
     change DataW.trod enc Tryz.prog W 0 (fun _ => true) true n 9 (([v0,v1,v2,v3,v4,v5,v6,v7,v8,v9,v10,v11].drop 0).take (Tryz.prog.cellsOf 9)) = some y0 at h0
     rw [show Tryz.prog.cellsOf 9 = 1 by kernel_rfl] at h0
     change DataW.trod enc Tryz.prog W 0 (fun _ => true) true n 9 [v0] = some y0 at h0
     have h1:=hfs 1 _ rfl
     change DataW.trod enc Tryz.prog W 0 (fun _ => true) true n 3 (([v0,v1,v2,v3,v4,v5,v6,v7,v8,v9,v10,v11].drop 1).take (Tryz.prog.cellsOf 3)) = some y1 at h1
     rw [show Tryz.prog.cellsOf 3 = 1 by kernel_rfl] at h1
     change DataW.trod enc Tryz.prog W 0 (fun _ => true) true n 3 [v1] = some y1 at h1
     have h2:=hfs 2 _ rfl
     change DataW.trod enc Tryz.prog W 0 (fun _ => true) true n 84 (([v0,v1,v2,v3,v4,v5,v6,v7,v8,v9,v10,v11].drop 2).take (Tryz.prog.cellsOf 84)) = some y2 at h2
     rw [show Tryz.prog.cellsOf 84 = 1 by kernel_rfl] at h2
     change DataW.trod enc Tryz.prog W 0 (fun _ => true) true n 84 [v2] = some y2 at h2
     have h3:=hfs 3 _ rfl
     change DataW.trod enc Tryz.prog W 0 (fun _ => true) true n 2 (([v0,v1,v2,v3,v4,v5,v6,v7,v8,v9,v10,v11].drop 3).take (Tryz.prog.cellsOf 2)) = some y3 at h3
     rw [show Tryz.prog.cellsOf 2 = 1 by kernel_rfl] at h3
     change DataW.trod enc Tryz.prog W 0 (fun _ => true) true n 2 [v3] = some y3 at h3
     have h4:=hfs 4 _ rfl
     change DataW.trod enc Tryz.prog W 0 (fun _ => true) true n 9 (([v0,v1,v2,v3,v4,v5,v6,v7,v8,v9,v10,v11].drop 4).take (Tryz.prog.cellsOf 9)) = some y4 at h4
     rw [show Tryz.prog.cellsOf 9 = 1 by kernel_rfl] at h4
     change DataW.trod enc Tryz.prog W 0 (fun _ => true) true n 9 [v4] = some y4 at h4
     have h5:=hfs 5 _ rfl
     change DataW.trod enc Tryz.prog W 0 (fun _ => true) true n 80 (([v0,v1,v2,v3,v4,v5,v6,v7,v8,v9,v10,v11].drop 5).take (Tryz.prog.cellsOf 80)) = some y5 at h5
     rw [show Tryz.prog.cellsOf 80 = 5 by kernel_rfl] at h5
     change DataW.trod enc Tryz.prog W 0 (fun _ => true) true n 80 [v5,v6,v7,v8,v9] = some y5 at h5
     have h6:=hfs 6 _ rfl
     change DataW.trod enc Tryz.prog W 0 (fun _ => true) true n 76 (([v0,v1,v2,v3,v4,v5,v6,v7,v8,v9,v10,v11].drop 10).take (Tryz.prog.cellsOf 76)) = some y6 at h6
     rw [show Tryz.prog.cellsOf 76 = 1 by kernel_rfl] at h6
     change DataW.trod enc Tryz.prog W 0 (fun _ => true) true n 76 [v10] = some y6 at h6
     have h7:=hfs 7 _ rfl
     change DataW.trod enc Tryz.prog W 0 (fun _ => true) true n 77 (([v0,v1,v2,v3,v4,v5,v6,v7,v8,v9,v10,v11].drop 11).take (Tryz.prog.cellsOf 77)) = some y7 at h7
     rw [show Tryz.prog.cellsOf 77 = 1 by kernel_rfl] at h7
     change DataW.trod enc Tryz.prog W 0 (fun _ => true) true n 77 [v11] = some y7 at h7
     obtain ⟨a0,e0,w0⟩:=part_str Tryz.underlying9 h0
     obtain ⟨a1,e1,f1,w1⟩:=DataW.trod_int Tryz.underlying3 h1
     obtain ⟨a2,e2,f2,w2⟩:=DataW.trod_int Tryz.underlying84 h2
     obtain ⟨a3,e3,f3,w3⟩:=DataW.trod_int Tryz.underlying2 h3
     obtain ⟨a4,e4,w4⟩:=part_str Tryz.underlying9 h4
     obtain ⟨T5,A5,e5,i5,k5⟩:=ten_part h5
     obtain ⟨p6,c6,x6,e6,i6,k6⟩:=part_ints Tryz.underlying76 Tryz.underlying84 (by kernel_rfl) h6
     obtain ⟨p7,c7,x7,e7,i7,k7⟩:=part_ints Tryz.underlying77 Tryz.underlying2 (by kernel_rfl) h7
     simp only [List.cons.injEq,and_true] at e0 e1 e2 e3 e4 e6 e7
     subst e0 e1 e2 e3 e4 e6 e7
     have hw2:(∀ m ∈ y.1.weights Tryz.prog 86,m ≤ reachBytes) → ∀ m ∈ DataW.weightsEach Tryz.prog [9,3,84,2,9,80,76,77] [y0.1,y1.1,y2.1,y3.1,y4.1,y5.1,y6.1,y7.1],m ≤ reachBytes:=by
      intro hw m hm
      apply hw m
      rw [hx]
      simp only [DataW.weights,Tryz.underlying86]
      exact hm
     simp only [DataW.weightsEach,List.mem_append] at hw2
     refine ⟨⟨a0,a1,a2,a3,a4,T5,A5,x6,p6,c6,x7,p7,c7⟩,?_,⟨w0,w1,w2,w3,w4,i5,⟨i6,i6.tag _⟩,i7,i7.tag _⟩,fun hw => k5 (fun m hm => hw2 hw m (by simp [hm]))⟩
     show _ = [strV a0,.int .i64 a1,.int .u32 a2,.int .i64 a3,strV a4] ++ (tenCells T5 A5).toList ++ [.slice p6 x6.length c6,.slice p7 x7.length c7]
     rw [← e5]
     rfl
theorem no_part {H:Type} {enc:TypeId × Value → H} {W:World} {n:Nat} {cs:List Value} {y:DataW H × List MemPlace} (h:DataW.trod enc Tryz.prog W 0 (fun _ => true) true n 75 cs = some y) :
  ∃ a:NoA,cs = noCells a ∧ NoIn W.heap.size W a ∧ ((∀ m ∈ y.1.weights Tryz.prog 75,m ≤ reachBytes) → NoLt a):=by
 obtain ⟨xs,n,_,hx,hsz,hlen,hfs⟩:=DataW.trod_struct Tryz.underlying75 h
 rw [show Tryz.prog.cellsOf 75 = 5 by kernel_rfl] at hsz
 match cs,hsz with
 | [v0,v1,v2,v3,v4],_ =>
   match xs,hlen with
   | [y0,y1,y2,y3,y4],_ =>
     have h0:=hfs 0 _ rfl
     change DataW.trod enc Tryz.prog W 0 (fun _ => true) true n 9 (([v0,v1,v2,v3,v4].drop 0).take (Tryz.prog.cellsOf 9)) = some y0 at h0
     rw [show Tryz.prog.cellsOf 9 = 1 by kernel_rfl] at h0
     change DataW.trod enc Tryz.prog W 0 (fun _ => true) true n 9 [v0] = some y0 at h0
     have h1:=hfs 1 _ rfl
     change DataW.trod enc Tryz.prog W 0 (fun _ => true) true n 9 (([v0,v1,v2,v3,v4].drop 1).take (Tryz.prog.cellsOf 9)) = some y1 at h1
     rw [show Tryz.prog.cellsOf 9 = 1 by kernel_rfl] at h1
     change DataW.trod enc Tryz.prog W 0 (fun _ => true) true n 9 [v1] = some y1 at h1
     have h2:=hfs 2 _ rfl
     change DataW.trod enc Tryz.prog W 0 (fun _ => true) true n 72 (([v0,v1,v2,v3,v4].drop 2).take (Tryz.prog.cellsOf 72)) = some y2 at h2
     rw [show Tryz.prog.cellsOf 72 = 1 by kernel_rfl] at h2
     change DataW.trod enc Tryz.prog W 0 (fun _ => true) true n 72 [v2] = some y2 at h2
     have h3:=hfs 3 _ rfl
     change DataW.trod enc Tryz.prog W 0 (fun _ => true) true n 72 (([v0,v1,v2,v3,v4].drop 3).take (Tryz.prog.cellsOf 72)) = some y3 at h3
     rw [show Tryz.prog.cellsOf 72 = 1 by kernel_rfl] at h3
     change DataW.trod enc Tryz.prog W 0 (fun _ => true) true n 72 [v3] = some y3 at h3
     have h4:=hfs 4 _ rfl
     change DataW.trod enc Tryz.prog W 0 (fun _ => true) true n 73 (([v0,v1,v2,v3,v4].drop 4).take (Tryz.prog.cellsOf 73)) = some y4 at h4
     rw [show Tryz.prog.cellsOf 73 = 1 by kernel_rfl] at h4
     change DataW.trod enc Tryz.prog W 0 (fun _ => true) true n 73 [v4] = some y4 at h4
     obtain ⟨a0,e0,w0⟩:=part_str Tryz.underlying9 h0
     obtain ⟨a1,e1,w1⟩:=part_str Tryz.underlying9 h1
     obtain ⟨p2,c2,x2,e2,w2,i2⟩:=part_strs Tryz.underlying72 Tryz.underlying9 (by kernel_rfl) h2
     obtain ⟨p3,c3,x3,e3,w3,i3⟩:=part_strs Tryz.underlying72 Tryz.underlying9 (by kernel_rfl) h3
     obtain ⟨p4,c4,x4,e4,r4,i4,k4⟩:=part_rows (z:=noAtA) atWd Tryz.underlying73 (by kernel_rfl) (fun n cs y h => at_part h) h4
     simp only [List.cons.injEq,and_true] at e0 e1 e2 e3 e4
     subst e0 e1 e2 e3 e4
     have hw2:(∀ m ∈ y.1.weights Tryz.prog 75,m ≤ reachBytes) → ∀ m ∈ DataW.weightsEach Tryz.prog [9,9,72,72,73] [y0.1,y1.1,y2.1,y3.1,y4.1],m ≤ reachBytes:=by
      intro hw m hm
      apply hw m
      rw [hx]
      simp only [DataW.weights,Tryz.underlying75]
      exact hm
     simp only [DataW.weightsEach,List.mem_append] at hw2
     exact ⟨⟨a0,a1,x2,p2,c2,x3,p3,c3,x4,p4,c4⟩,rfl,⟨w0,w1,⟨w2,i2,i2.tag _⟩,⟨w3,i3,i3.tag _⟩,i4,r4,r4.tag _⟩,fun hw => (k4 (fun m hm => hw2 hw m (by simp [hm]))).1⟩
theorem mo_part {H:Type} {enc:TypeId × Value → H} {W:World} {n:Nat} {cs:List Value} {y:DataW H × List MemPlace} (h:DataW.trod enc Tryz.prog W 0 (fun _ => true) true n 29 cs = some y) :
  ∃ a:MoA,cs = (moCells a).toList ∧ MoIn W.heap.size W a ∧ ((∀ m ∈ y.1.weights Tryz.prog 29,m ≤ reachBytes) → MoLt a):=by
 obtain ⟨xs,n,_,hx,hsz,hlen,hfs⟩:=DataW.trod_struct Tryz.underlying29 h
 rw [show Tryz.prog.cellsOf 29 = 6 by kernel_rfl] at hsz
 match cs,hsz with
 | [v0,v1,v2,v3,v4,v5],_ =>
   match xs,hlen with
   | [y0,y1,y2,y3,y4,y5],_ =>
     have h0:=hfs 0 _ rfl
     change DataW.trod enc Tryz.prog W 0 (fun _ => true) true n 2 (([v0,v1,v2,v3,v4,v5].drop 0).take (Tryz.prog.cellsOf 2)) = some y0 at h0
     rw [show Tryz.prog.cellsOf 2 = 1 by kernel_rfl] at h0
     change DataW.trod enc Tryz.prog W 0 (fun _ => true) true n 2 [v0] = some y0 at h0
     have h1:=hfs 1 _ rfl
     change DataW.trod enc Tryz.prog W 0 (fun _ => true) true n 9 (([v0,v1,v2,v3,v4,v5].drop 1).take (Tryz.prog.cellsOf 9)) = some y1 at h1
     rw [show Tryz.prog.cellsOf 9 = 1 by kernel_rfl] at h1
     change DataW.trod enc Tryz.prog W 0 (fun _ => true) true n 9 [v1] = some y1 at h1
     have h2:=hfs 2 _ rfl
     change DataW.trod enc Tryz.prog W 0 (fun _ => true) true n 25 (([v0,v1,v2,v3,v4,v5].drop 2).take (Tryz.prog.cellsOf 25)) = some y2 at h2
     rw [show Tryz.prog.cellsOf 25 = 1 by kernel_rfl] at h2
     change DataW.trod enc Tryz.prog W 0 (fun _ => true) true n 25 [v2] = some y2 at h2
     have h3:=hfs 3 _ rfl
     change DataW.trod enc Tryz.prog W 0 (fun _ => true) true n 26 (([v0,v1,v2,v3,v4,v5].drop 3).take (Tryz.prog.cellsOf 26)) = some y3 at h3
     rw [show Tryz.prog.cellsOf 26 = 1 by kernel_rfl] at h3
     change DataW.trod enc Tryz.prog W 0 (fun _ => true) true n 26 [v3] = some y3 at h3
     have h4:=hfs 4 _ rfl
     change DataW.trod enc Tryz.prog W 0 (fun _ => true) true n 27 (([v0,v1,v2,v3,v4,v5].drop 4).take (Tryz.prog.cellsOf 27)) = some y4 at h4
     rw [show Tryz.prog.cellsOf 27 = 1 by kernel_rfl] at h4
     change DataW.trod enc Tryz.prog W 0 (fun _ => true) true n 27 [v4] = some y4 at h4
     have h5:=hfs 5 _ rfl
     change DataW.trod enc Tryz.prog W 0 (fun _ => true) true n 27 (([v0,v1,v2,v3,v4,v5].drop 5).take (Tryz.prog.cellsOf 27)) = some y5 at h5
     rw [show Tryz.prog.cellsOf 27 = 1 by kernel_rfl] at h5
     change DataW.trod enc Tryz.prog W 0 (fun _ => true) true n 27 [v5] = some y5 at h5
     obtain ⟨a0,e0,f0,w0⟩:=DataW.trod_int Tryz.underlying2 h0
     obtain ⟨a1,e1,w1⟩:=part_str Tryz.underlying9 h1
     obtain ⟨p2,c2,x2,e2,r2,i2,k2⟩:=part_rows (z:=noNoA) noWd Tryz.underlying25 (by kernel_rfl) (fun n cs y h => no_part h) h2
     obtain ⟨p3,c3,x3,e3,r3,i3,k3⟩:=part_rows (z:=noInA) inWd Tryz.underlying26 (by kernel_rfl) (fun n cs y h => in_part h) h3
     obtain ⟨p4,c4,x4,e4,r4,i4,k4⟩:=part_rows (z:=noVaA) vaWd Tryz.underlying27 (by kernel_rfl) (fun n cs y h => va_part h) h4
     obtain ⟨p5,c5,x5,e5,r5,i5,k5⟩:=part_rows (z:=noVaA) vaWd Tryz.underlying27 (by kernel_rfl) (fun n cs y h => va_part h) h5
     simp only [List.cons.injEq,and_true] at e0 e1 e2 e3 e4 e5
     subst e0 e1 e2 e3 e4 e5
     have hw2:(∀ m ∈ y.1.weights Tryz.prog 29,m ≤ reachBytes) → ∀ m ∈ DataW.weightsEach Tryz.prog [2,9,25,26,27,27] [y0.1,y1.1,y2.1,y3.1,y4.1,y5.1],m ≤ reachBytes:=by
      intro hw m hm
      apply hw m
      rw [hx]
      simp only [DataW.weights,Tryz.underlying29]
      exact hm
     simp only [DataW.weightsEach,List.mem_append] at hw2
     exact ⟨⟨a0,a1,x2,p2,c2,x3,p3,c3,x4,p4,c4,x5,p5,c5⟩,rfl,⟨w0,w1,⟨i2,r2,r2.tag _⟩,⟨i3,r3,r3.tag _⟩,⟨i4,r4,r4.tag _⟩,i5,r5,r5.tag _⟩,fun hw => ⟨(k2 (fun m hm => hw2 hw m (by simp [hm]))).1,(k3 (fun m hm => hw2 hw m (by simp [hm]))).1⟩⟩
theorem mo_open {H:Type} {enc:TypeId × Value → H} {W:World} {base:Nat} {v:Value} {d:DataW H} {ps:List MemPlace}
  (hv:Value.okWide Tryz.prog W .any base 29 v) (h:DataW.Trod enc Tryz.prog W 0 (fun _ => true) true 29 v d ps) :
  ∃ a:MoA,v = moV a ∧ MoIn W.heap.size W a ∧ ((∀ m ∈ d.weights Tryz.prog 29,m ≤ reachBytes) → MoLt a):=by
 obtain ⟨cs,rfl,hsz⟩:=Go.WideShapes.okWide_struct Tryz.underlying29 hv
 obtain ⟨fuel,hf⟩:=h
 obtain ⟨a,e,h1,h2⟩:=mo_part hf
 obtain ⟨l⟩:=cs
 simp only [Value.cells] at e
 refine ⟨a,?_,h1,h2⟩
 unfold moV
 rw [Array.toList_inj.1 e]
end Go.Proofs.YtmdlaahdgjegcaaGreat
