import Derived.Test.YtbmmcbagdomonaaGreatV04
import Derived.Test.YtbmmcbagdomonaaGreatV05
import Derived.Test.YtbmmcbagdomonaaGreatV06
set_option maxRecDepth 100000
set_option maxHeartbeats 40000000
namespace Go.Proofs.YtbmmcbagdomonaaGreat
open Go.RowKit
set_option linter.unusedVariables false
theorem Box.set5 {w:World} {g:Nat} {a0 a1 a2 a3 a4:Value} {t:TypeId} (h:Box w g #[a0,a1,a2,a3,a4] t) (u0 u1 u2 u3 u4:Value):Box (((((w.setCell ⟨g,0,none⟩ u0).setCell ⟨g,1,none⟩ u1).setCell ⟨g,2,none⟩ u2).setCell ⟨g,3,none⟩ u3).setCell ⟨g,4,none⟩ u4) g #[u0,u1,u2,u3,u4] t:=by
 have h0:Box (w.setCell ⟨g,0,none⟩ u0) g #[u0,a1,a2,a3,a4] t:=h.same 0 u0
 have h1:Box ((w.setCell ⟨g,0,none⟩ u0).setCell ⟨g,1,none⟩ u1) g #[u0,u1,a2,a3,a4] t:=h0.same 1 u1
 have h2:Box (((w.setCell ⟨g,0,none⟩ u0).setCell ⟨g,1,none⟩ u1).setCell ⟨g,2,none⟩ u2) g #[u0,u1,u2,a3,a4] t:=h1.same 2 u2
 have h3:Box ((((w.setCell ⟨g,0,none⟩ u0).setCell ⟨g,1,none⟩ u1).setCell ⟨g,2,none⟩ u2).setCell ⟨g,3,none⟩ u3) g #[u0,u1,u2,u3,a4] t:=h2.same 3 u3
 have h4:Box (((((w.setCell ⟨g,0,none⟩ u0).setCell ⟨g,1,none⟩ u1).setCell ⟨g,2,none⟩ u2).setCell ⟨g,3,none⟩ u3).setCell ⟨g,4,none⟩ u4) g #[u0,u1,u2,u3,u4] t:=h3.same 4 u4
 exact h4
theorem bset5 {B:Nat} {a w:World} (h:Below B a w) {g:Nat} (hg:B ≤ g) (u0 u1 u2 u3 u4:Value):Below B a (((((w.setCell ⟨g,0,none⟩ u0).setCell ⟨g,1,none⟩ u1).setCell ⟨g,2,none⟩ u2).setCell ⟨g,3,none⟩ u3).setCell ⟨g,4,none⟩ u4):=by
 have h0:Below B a (w.setCell ⟨g,0,none⟩ u0):=h.setCell hg u0
 have h1:Below B a ((w.setCell ⟨g,0,none⟩ u0).setCell ⟨g,1,none⟩ u1):=h0.setCell hg u1
 have h2:Below B a (((w.setCell ⟨g,0,none⟩ u0).setCell ⟨g,1,none⟩ u1).setCell ⟨g,2,none⟩ u2):=h1.setCell hg u2
 have h3:Below B a ((((w.setCell ⟨g,0,none⟩ u0).setCell ⟨g,1,none⟩ u1).setCell ⟨g,2,none⟩ u2).setCell ⟨g,3,none⟩ u3):=h2.setCell hg u3
 have h4:Below B a (((((w.setCell ⟨g,0,none⟩ u0).setCell ⟨g,1,none⟩ u1).setCell ⟨g,2,none⟩ u2).setCell ⟨g,3,none⟩ u3).setCell ⟨g,4,none⟩ u4):=h3.setCell hg u4
 exact h4
theorem Box.off5 {w:World} {k g:Nat} {cs:Array Value} {t:TypeId} (h:Box w k cs t) (hne:k ≠ g) (u0 u1 u2 u3 u4:Value):Box (((((w.setCell ⟨g,0,none⟩ u0).setCell ⟨g,1,none⟩ u1).setCell ⟨g,2,none⟩ u2).setCell ⟨g,3,none⟩ u3).setCell ⟨g,4,none⟩ u4) k cs t:=by
 have h0:Box (w.setCell ⟨g,0,none⟩ u0) k cs t:=Box.other h hne 0 u0
 have h1:Box ((w.setCell ⟨g,0,none⟩ u0).setCell ⟨g,1,none⟩ u1) k cs t:=Box.other h0 hne 1 u1
 have h2:Box (((w.setCell ⟨g,0,none⟩ u0).setCell ⟨g,1,none⟩ u1).setCell ⟨g,2,none⟩ u2) k cs t:=Box.other h1 hne 2 u2
 have h3:Box ((((w.setCell ⟨g,0,none⟩ u0).setCell ⟨g,1,none⟩ u1).setCell ⟨g,2,none⟩ u2).setCell ⟨g,3,none⟩ u3) k cs t:=Box.other h2 hne 3 u3
 have h4:Box (((((w.setCell ⟨g,0,none⟩ u0).setCell ⟨g,1,none⟩ u1).setCell ⟨g,2,none⟩ u2).setCell ⟨g,3,none⟩ u3).setCell ⟨g,4,none⟩ u4) k cs t:=Box.other h3 hne 4 u4
 exact h4
theorem Box.set6 {w:World} {g:Nat} {a0 a1 a2 a3 a4 a5:Value} {t:TypeId} (h:Box w g #[a0,a1,a2,a3,a4,a5] t) (u0 u1 u2 u3 u4 u5:Value):Box ((((((w.setCell ⟨g,0,none⟩ u0).setCell ⟨g,1,none⟩ u1).setCell ⟨g,2,none⟩ u2).setCell ⟨g,3,none⟩ u3).setCell ⟨g,4,none⟩ u4).setCell ⟨g,5,none⟩ u5) g #[u0,u1,u2,u3,u4,u5] t:=by
 have h0:Box (w.setCell ⟨g,0,none⟩ u0) g #[u0,a1,a2,a3,a4,a5] t:=h.same 0 u0
 have h1:Box ((w.setCell ⟨g,0,none⟩ u0).setCell ⟨g,1,none⟩ u1) g #[u0,u1,a2,a3,a4,a5] t:=h0.same 1 u1
 have h2:Box (((w.setCell ⟨g,0,none⟩ u0).setCell ⟨g,1,none⟩ u1).setCell ⟨g,2,none⟩ u2) g #[u0,u1,u2,a3,a4,a5] t:=h1.same 2 u2
 have h3:Box ((((w.setCell ⟨g,0,none⟩ u0).setCell ⟨g,1,none⟩ u1).setCell ⟨g,2,none⟩ u2).setCell ⟨g,3,none⟩ u3) g #[u0,u1,u2,u3,a4,a5] t:=h2.same 3 u3
 have h4:Box (((((w.setCell ⟨g,0,none⟩ u0).setCell ⟨g,1,none⟩ u1).setCell ⟨g,2,none⟩ u2).setCell ⟨g,3,none⟩ u3).setCell ⟨g,4,none⟩ u4) g #[u0,u1,u2,u3,u4,a5] t:=h3.same 4 u4
 have h5:Box ((((((w.setCell ⟨g,0,none⟩ u0).setCell ⟨g,1,none⟩ u1).setCell ⟨g,2,none⟩ u2).setCell ⟨g,3,none⟩ u3).setCell ⟨g,4,none⟩ u4).setCell ⟨g,5,none⟩ u5) g #[u0,u1,u2,u3,u4,u5] t:=h4.same 5 u5
 exact h5
theorem bset6 {B:Nat} {a w:World} (h:Below B a w) {g:Nat} (hg:B ≤ g) (u0 u1 u2 u3 u4 u5:Value):Below B a ((((((w.setCell ⟨g,0,none⟩ u0).setCell ⟨g,1,none⟩ u1).setCell ⟨g,2,none⟩ u2).setCell ⟨g,3,none⟩ u3).setCell ⟨g,4,none⟩ u4).setCell ⟨g,5,none⟩ u5):=by
 have h0:Below B a (w.setCell ⟨g,0,none⟩ u0):=h.setCell hg u0
 have h1:Below B a ((w.setCell ⟨g,0,none⟩ u0).setCell ⟨g,1,none⟩ u1):=h0.setCell hg u1
 have h2:Below B a (((w.setCell ⟨g,0,none⟩ u0).setCell ⟨g,1,none⟩ u1).setCell ⟨g,2,none⟩ u2):=h1.setCell hg u2
 have h3:Below B a ((((w.setCell ⟨g,0,none⟩ u0).setCell ⟨g,1,none⟩ u1).setCell ⟨g,2,none⟩ u2).setCell ⟨g,3,none⟩ u3):=h2.setCell hg u3
 have h4:Below B a (((((w.setCell ⟨g,0,none⟩ u0).setCell ⟨g,1,none⟩ u1).setCell ⟨g,2,none⟩ u2).setCell ⟨g,3,none⟩ u3).setCell ⟨g,4,none⟩ u4):=h3.setCell hg u4
 have h5:Below B a ((((((w.setCell ⟨g,0,none⟩ u0).setCell ⟨g,1,none⟩ u1).setCell ⟨g,2,none⟩ u2).setCell ⟨g,3,none⟩ u3).setCell ⟨g,4,none⟩ u4).setCell ⟨g,5,none⟩ u5):=h4.setCell hg u5
 exact h5
theorem str_nil7:strOfNums ([]:List Int) = { data:=#[] }:=rfl
theorem al3p (w:World) (a b c:Obj):Below w.heap.size w (((w.alloc a).alloc b).alloc c):=bl_tr (al2p w a b) (al1p _ c)
def pushAll (w:World):List (Array Value × TypeId) → World
 | [] => w
 | x :: r => pushAll (w.alloc (.cells x.1 x.2)) r
theorem pushAll_size:∀ (l:List (Array Value × TypeId)) (w:World),(pushAll w l).heap.size = w.heap.size + l.length
 | [],w => rfl
 | x :: r,w => by
   unfold pushAll
   rw [pushAll_size r]
   simp
   omega
theorem pushAll_below:∀ (l:List (Array Value × TypeId)) (w:World),Below w.heap.size w (pushAll w l)
 | [],w => Below.refl _ _
 | x :: r,w => by
   unfold pushAll
   exact bl_tr (al1p w _) (pushAll_below r _)
theorem pushAll_box:∀ (l:List (Array Value × TypeId)) (w:World) (k:Nat) (x:Array Value × TypeId),l[k]? = some x → Box (pushAll w l) (w.heap.size + k) x.1 x.2
 | [],w,k,x,h => by simp at h
 | y :: r,w,0,x,h => by
   simp only [List.getElem?_cons_zero,Option.some.injEq] at h
   subst h
   unfold pushAll
   exact (Box.new w y.1 y.2).below (pushAll_below r _)
 | y :: r,w,k + 1,x,h => by
   simp only [List.getElem?_cons_succ] at h
   have:=pushAll_box r (w.alloc (.cells y.1 y.2)) k x h
   unfold pushAll
   have e:(w.alloc (.cells y.1 y.2)).heap.size + k = w.heap.size + (k + 1):=by simp; omega
   rw [e] at this
   exact this
theorem flat_at8 {β:Type} {k:Nat} {cells:β → List Value} (hk:Wd k cells) (z:β):∀ (l:List β) (i j:Nat) (u:Value),i < l.length → (cells (l.getD i z))[j]? = some u → (l.flatMap cells)[i * k + j]? = some u
 | [],i,j,u,h,_ => by simp at h
 | x :: r,0,j,u,_,hu => by
   simp only [List.getD_cons_zero] at hu
   rw [List.flatMap_cons,Nat.zero_mul,Nat.zero_add,List.getElem?_append_left (List.getElem?_eq_some_iff.1 hu).1]
   exact hu
 | x :: r,i + 1,j,u,h,hu => by
   simp only [List.getD_cons_succ] at hu
   have:=flat_at8 hk z r i j u (by simpa using h) hu
   rw [List.flatMap_cons,List.getElem?_append_right (by rw [hk.2.1 x,Nat.add_mul]; omega),hk.2.1 x]
   have e:(i + 1) * k + j - k = i * k + j:=by rw [Nat.add_mul]; omega
   rw [e]; exact this
theorem rc_box {β:Type} {k:Nat} {cells:β → List Value} (hk:Wd k cells) (z:β) {w:World} {b:Nat} {cs:Array Value} {t:TypeId} {l:List β} (h:Box w b cs t) (hc:cs = (l.flatMap cells).toArray) (hl:l.length ≤ 9223372036854775807):Rc k cells z w (some ⟨b,0,none⟩) l.length l:=by
 refine ⟨Nat.le_refl _,hl,fun _ => ⟨b,0,rfl,h.lt,fun i hi j u hu => ?_⟩,fun h => by cases h⟩
 rw [h.cell,hc]
 have:=flat_at8 hk z l i j u hi hu
 have e:0 + i * k + j = i * k + j:=by omega
 rw [e,List.getElem?_toArray]; exact this
abbrev AtD:=Str × Int × Int × Int
def noAtD:AtD:=([],0,0,0)
def adCells (a:AtD):List Value:=[strV a.1,.int .i64 a.2.1,.int .i64 a.2.2.1,.int .i64 a.2.2.2]
theorem adWd:Wd 4 adCells:=⟨by decide,fun _ => rfl,fun a u hu => by simp [adCells] at hu; rcases hu with rfl | rfl | rfl | rfl <;> rfl⟩
abbrev RowD:=Str × Int × Int × Int × Int × List AtD
def noRowD:RowD:=([],0,0,0,0,[])
structure RoA where
 nm:Str
 a:Int
 b:Int
 c:Int
 d':Int
 ats:List AtD
 q:Option Addr
 k:Nat
def RoA.d (r:RoA):RowD:=(r.nm,r.a,r.b,r.c,r.d',r.ats)
def noRoA:RoA:=⟨[],0,0,0,0,[],none,0⟩
def roCells (r:RoA):List Value:=[strV r.nm,.int .i64 r.a,.int .i64 r.b,.int .i64 r.c,.int .i64 r.d',.slice r.q r.ats.length r.k]
theorem roWd:Wd 6 roCells:=⟨by decide,fun _ => rfl,fun a u hu => by simp [roCells] at hu; rcases hu with rfl | rfl | rfl | rfl | rfl | rfl <;> rfl⟩
def AdIn (w:World) (q:Option Addr) (k:Nat) (l:List AtD):Prop:=Rc 4 adCells noAtD w q k l ∧ Tag 180 0 w q l.length
theorem AdIn.kept {w w':World} {q:Option Addr} {k:Nat} {l:List AtD} (h:AdIn w q k l) (hb:Kept [180] 0 w w'):AdIn w' q k l:=⟨h.1.kept h.2 (by simp) hb,h.2.kept (by simp) hb⟩
theorem AdIn.nil (w:World):AdIn w none 0 []:=⟨Rc.nil w,Tag.nil _ _ _ _⟩
theorem AdIn.box {w:World} {b:Nat} {cs:Array Value} {l:List AtD} (h:Box w b cs 180) (hc:cs = (l.flatMap adCells).toArray) (hl:l.length ≤ 9223372036854775807):AdIn w (some ⟨b,0,none⟩) l.length l :=
 ⟨rc_box adWd noAtD h hc hl,fun _ => ⟨b,0,rfl,h.lt,.inr ⟨cs,h⟩⟩⟩
def RoIn (w:World) (r:RoA):Prop:=AdIn w r.q r.k r.ats
theorem RoIn.kept {w w':World} {r:RoA} (h:RoIn w r) (hb:Kept [180] 0 w w'):RoIn w' r:=AdIn.kept h hb
theorem RoIn.below {w w':World} {r:RoA} (h:RoIn w r) (hb:Below w.heap.size w w'):RoIn w' r:=h.kept (Kept.below hb)
def TabIn (w:World) (p:Option Addr) (c:Nat) (L:List RoA) (T:List RowD):Prop:=Rc 6 roCells noRoA w p c L ∧ (∀ x ∈ L,RoIn w x) ∧ L.map RoA.d = T
theorem TabIn.below {w w':World} {p:Option Addr} {c:Nat} {L:List RoA} {T:List RowD} (h:TabIn w p c L T) (hb:Below w.heap.size w w'):TabIn w' p c L T :=
 ⟨h.1.below hb,fun x hx => (h.2.1 x hx).below hb,h.2.2⟩
def restA (a:AtA):AtA:=if a.kd = 1 then { a with f:=0 } else if a.kd = 2 then { a with i:=0 } else if a.kd = 3 then { a with s:=[] } else if a.kd = 4 then { a with T:=noTen,A:=noTA } else if a.kd = 6 then { a with fl:=[],qf:=none,cf:=0 } else if a.kd = 7 then { a with is:=[],qi:=none,ci:=0 } else a
def keptA (a:AtA):AtA:=if a.kd = 1 then { noAtA with nm:=a.nm,kd:=a.kd,f:=a.f } else if a.kd = 2 then { noAtA with nm:=a.nm,kd:=a.kd,i:=a.i } else if a.kd = 3 then { noAtA with nm:=a.nm,kd:=a.kd,s:=a.s } else if a.kd = 4 then { noAtA with nm:=a.nm,kd:=a.kd,T:=a.T,A:=a.A } else if a.kd = 6 then { noAtA with nm:=a.nm,kd:=a.kd,fl:=a.fl,qf:=a.qf,cf:=a.cf } else if a.kd = 7 then { noAtA with nm:=a.nm,kd:=a.kd,is:=a.is,qi:=a.qi,ci:=a.ci } else noAtA
def noneT (T:Ten):Bool:=T.1 == 0 && ((T.2.1.length:Int) == 0 && elemsN T == 0)
def zeroA (a:AtA):Bool:=a.f == 0 && (a.i == 0 && (decide (a.s = []) && (noneT a.T && ((a.fl.length:Int) == 0 && (a.is.length:Int) == 0))))
theorem noneT_E (T:Ten):noneT T = emptyT T:=by
 unfold noneT emptyT elemsN
 rw [Bool.eq_iff_iff]
 simp only [Bool.and_eq_true,beq_iff_eq]
 omega
theorem emptyT_no:emptyT noTen = true:=by decide
theorem zero_rest (a:AtA):zeroA (restA a) = zeroR a.d:=by
 obtain ⟨nm,k,f,i,s,T,A,fl,qf,cf,is,qi,ci⟩:=a
 unfold zeroA zeroR restA AtA.d
 simp only [noneT_E]
 have e2:((fl.length:Int) == 0) = decide (fl.length = 0):=by rw [Bool.eq_iff_iff]; simp
 have e3:((is.length:Int) == 0) = decide (is.length = 0):=by rw [Bool.eq_iff_iff]; simp
 by_cases h1:k = 1
 ·subst h1; simp [e2,e3]
 ·by_cases h2:k = 2
  ·subst h2; simp [e2,e3]
  ·by_cases h3:k = 3
   ·subst h3; simp [e2,e3]
   ·by_cases h4:k = 4
    ·subst h4; simp [e2,e3,emptyT_no]
    ·by_cases h6:k = 6
     ·subst h6; simp [e3]
     ·by_cases h7:k = 7
      ·subst h7; simp [e2]
      ·simp only [if_neg h1,if_neg h2,if_neg h3,if_neg h4,if_neg h6,if_neg h7,e2,e3,show (k == 1) = false from by simp [h1],show (k == 2) = false from by simp [h2],show (k == 3) = false from by simp [h3],show (k == 4) = false from by simp [h4],show (k == 6) = false from by simp [h6],show (k == 7) = false from by simp [h7],Bool.false_or]
theorem czero_1 (a:AtA) (w:World) (h:TenSm a.T) (h0:¬ a.T.1 = 0):Calls Tryz.prog 152 #[.agg (atCells a).toArray] w fun e w' => e = .returned (.bool (zeroA a)) ∧ Below w.heap.size w w':=by
 obtain ⟨nm,kd,f,i,s,⟨ty,ds,fs,is,bs⟩,⟨pd,cd,pf,cf,pi,ci,pb,cb⟩,fl,qf,cf',li,qi,ci'⟩:=a
 have CE:=hide (fun v => celems_any (ty,ds,fs,is,bs) ⟨pd,cd,pf,cf,pi,ci,pb,cb⟩ v h)
 obtain ⟨R,hR⟩:∃ R,zeroA ⟨nm,kd,f,i,s,(ty,ds,fs,is,bs),⟨pd,cd,pf,cf,pi,ci,pb,cb⟩,fl,qf,cf',li,qi,ci'⟩ = R:=⟨_,rfl⟩
 have HN:Hid (noneT (ty,ds,fs,is,bs) = (ty == 0 && ((ds.length:Int) == 0 && elemsN (ty,ds,fs,is,bs) == 0))):=hide rfl
 have HR:Hid (R = (f == 0 && (i == 0 && (decide (s = []) && (noneT (ty,ds,fs,is,bs) && ((fl.length:Int) == 0 && (li.length:Int) == 0)))))):=hide (by rw [← hR]; rfl)
 rw [hR]
 rw [← str_isE] at HR
 clear hR h
 generalize noneT (ty,ds,fs,is,bs) = NT at HN HR
 generalize elemsN (ty,ds,fs,is,bs) = EN at CE HN
 unfold tenV tenCells at CE
 unfold atCells tenCells strV
 simp only [List.cons_append,List.nil_append]
 have HB:=hide (fun o => al1p w o)
 simp only at h0
 have t0:(ty == 0) = false:=by simp [h0]
 rw [t0,Bool.false_and] at HN
 replace HN:=uh HN
 subst HN
 have HE:Hid (false = R):=hide (by rw [uh HR]; simp only [Bool.and_false,Bool.false_and])
 clear CE h0 HR
 go_enter Tryz.func152,Tryz.ntmps152
 go_wp2_with fail
 all_goals (go_ret; exact ⟨ret_bool (uh HE),uh HB _⟩)
theorem czero_2 (a:AtA) (w:World) (h:TenSm a.T) (h0:a.T.1 = 0) (h1:¬ a.T.2.1.length = 0):Calls Tryz.prog 152 #[.agg (atCells a).toArray] w fun e w' => e = .returned (.bool (zeroA a)) ∧ Below w.heap.size w w':=by
 obtain ⟨nm,kd,f,i,s,⟨ty,ds,fs,is,bs⟩,⟨pd,cd,pf,cf,pi,ci,pb,cb⟩,fl,qf,cf',li,qi,ci'⟩:=a
 have CE:=hide (fun v => celems_any (ty,ds,fs,is,bs) ⟨pd,cd,pf,cf,pi,ci,pb,cb⟩ v h)
 obtain ⟨R,hR⟩:∃ R,zeroA ⟨nm,kd,f,i,s,(ty,ds,fs,is,bs),⟨pd,cd,pf,cf,pi,ci,pb,cb⟩,fl,qf,cf',li,qi,ci'⟩ = R:=⟨_,rfl⟩
 have HN:Hid (noneT (ty,ds,fs,is,bs) = (ty == 0 && ((ds.length:Int) == 0 && elemsN (ty,ds,fs,is,bs) == 0))):=hide rfl
 have HR:Hid (R = (f == 0 && (i == 0 && (decide (s = []) && (noneT (ty,ds,fs,is,bs) && ((fl.length:Int) == 0 && (li.length:Int) == 0)))))):=hide (by rw [← hR]; rfl)
 rw [hR]
 rw [← str_isE] at HR
 clear hR h
 generalize noneT (ty,ds,fs,is,bs) = NT at HN HR
 generalize elemsN (ty,ds,fs,is,bs) = EN at CE HN
 unfold tenV tenCells at CE
 unfold atCells tenCells strV
 simp only [List.cons_append,List.nil_append]
 have HB:=hide (fun o => al1p w o)
 simp only at h0 h1
 have t0:(ty == 0) = true:=by simp [h0]
 have t1:((ds.length:Int) == 0) = false:=by rw [beq_eq_false_iff_ne]; omega
 rw [t0,t1,Bool.false_and,Bool.and_false] at HN
 replace HN:=uh HN
 subst HN
 have HE:Hid (false = R):=hide (by rw [uh HR]; simp only [Bool.and_false,Bool.false_and])
 clear CE h1 HR
 go_enter Tryz.func152,Tryz.ntmps152
 go_wp2_with fail
 all_goals (go_ret; exact ⟨ret_bool (uh HE),uh HB _⟩)
end Go.Proofs.YtbmmcbagdomonaaGreat
