import Derived.Test.YtbmmcbagdomonaaGreatV07
import Derived.Test.YtbmmcbagdomonaaGreatV48
set_option maxRecDepth 100000
set_option maxHeartbeats 40000000
namespace Go.Proofs.YtbmmcbagdomonaaGreat
open Go.RowKit
set_option linter.unusedVariables false
set_option linter.unusedSimpArgs false
theorem box_tag9 {u:World} {k B n:Nat} {cs:Array Value} {t:TypeId} (h:Box u k cs t):Tag t B u (some ⟨k,0,none⟩) n:=fun _ => ⟨k,0,rfl,h.lt,.inr ⟨cs,h⟩⟩
theorem box_ls9 {α:Type} [Inhabited α] (f:α → Value) {u:World} {k:Nat} {cs:Array Value} {t:TypeId} (h:Box u k cs t) (xs:List α) (hc:cs = (xs.map f).toArray) (hn:xs.length ≤ 1000):Ls f u (some ⟨k,0,none⟩) xs.length xs:=by
 refine ⟨Nat.le_refl _,by omega,fun _ => ⟨k,0,rfl,h.lt,fun i hi => ?_⟩,fun h => by cases h⟩
 rw [h.cell,hc,Nat.zero_add,List.getD_eq_getElem?_getD]
 simp [List.getElem?_eq_getElem hi]
def awG (k0 k1 k2 k3 k5 k6 k7 k8 k9:Nat) (s:Str):MoA :=
 ⟨17,[],[⟨[65,100,100],[],[[116],[99]],some ⟨k5,0,none⟩,2,[[121]],some ⟨k6,0,none⟩,1,[],none,0⟩,⟨[82,101,108,117],[],[s],some ⟨k7,0,none⟩,1,[[116]],some ⟨k8,0,none⟩,1,[],none,0⟩],some ⟨k9,0,none⟩,2,
  [⟨[99],(1,[],[1],[],[]),⟨none,0,some ⟨k0,0,none⟩,1,none,0,none,0⟩⟩],some ⟨k1,0,none⟩,1,[⟨[120],1,[],none,0⟩],some ⟨k2,0,none⟩,1,[⟨[121],1,[],none,0⟩],some ⟨k3,0,none⟩,1⟩
def awD (s:Str):ModelD:=(17,[],[([65,100,100],[],[[116],[99]],[[121]],[]),([82,101,108,117],[],[s],[[116]],[])],[([99],(1,[],[1],[],[]))],[([120],1,[])],[([121],1,[])])
theorem awG_d (k0 k1 k2 k3 k5 k6 k7 k8 k9:Nat) (s:Str):(awG k0 k1 k2 k3 k5 k6 k7 k8 k9 s).d = awD s:=rfl
structure AwB (u:World) (k0 k1 k2 k3 k5 k6 k7 k8 k9:Nat) (s:Str):Prop where
 b0:Box u k0 #[.int .u32 1] 43
 b1:Box u k1 #[.string { data:=#[99] },.int .i64 1,.slice none 0 0,.slice (some ⟨k0,0,none⟩) 1 1,.slice none 0 0,.slice none 0 0] 61
 b2:Box u k2 #[.string { data:=#[120] },.int .i64 1,.slice none 0 0] 63
 b3:Box u k3 #[.string { data:=#[121] },.int .i64 1,.slice none 0 0] 63
 b5:Box u k5 #[.string { data:=#[116] },.string { data:=#[99] }] 9
 b6:Box u k6 #[.string { data:=#[121] }] 9
 b7:Box u k7 #[strV s] 9
 b8:Box u k8 #[.string { data:=#[116] }] 9
 b9:Box u k9 #[.string { data:=#[65,100,100] },.string { data:=#[] },.slice (some ⟨k5,0,none⟩) 2 2,.slice (some ⟨k6,0,none⟩) 1 1,.slice none 0 0,.string { data:=#[82,101,108,117] },.string { data:=#[] },.slice (some ⟨k7,0,none⟩) 1 1,.slice (some ⟨k8,0,none⟩) 1 1,.slice none 0 0] 55
theorem AwB.below {u v:World} {k0 k1 k2 k3 k5 k6 k7 k8 k9:Nat} {s:Str} (h:AwB u k0 k1 k2 k3 k5 k6 k7 k8 k9 s) (hb:Below u.heap.size u v):AwB v k0 k1 k2 k3 k5 k6 k7 k8 k9 s :=
 ⟨h.b0.below hb,h.b1.below hb,h.b2.below hb,h.b3.below hb,h.b5.below hb,h.b6.below hb,h.b7.below hb,h.b8.below hb,h.b9.below hb⟩
theorem isB1 (l:List Int) (h:(l.all fun x => decide (0 ≤ x) && decide (x < 256)) = true):isB l:=by
 rw [List.all_eq_true] at h
 intro x hx
 have:=h x hx
 simp only [Bool.and_eq_true,decide_eq_true_eq] at this
 exact this
theorem awG_in {u:World} {k0 k1 k2 k3 k5 k6 k7 k8 k9:Nat} {s:Str} (h:AwB u k0 k1 k2 k3 k5 k6 k7 k8 k9 s) (hs:isB s):MoIn 0 u (awG k0 k1 k2 k3 k5 k6 k7 k8 k9 s):=by
 refine ⟨rfl,fun c hc => (by cases hc),⟨fun x hx => ?_,rc_box noWd noNoA h.b9 rfl (show (2:Nat) ≤ 9223372036854775807 by decide),box_tag9 h.b9⟩,⟨fun x hx => ?_,rc_box inWd noInA h.b1 rfl (show (1:Nat) ≤ 9223372036854775807 by decide),box_tag9 h.b1⟩,⟨fun x hx => ?_,rc_box vaWd noVaA h.b2 rfl (show (1:Nat) ≤ 9223372036854775807 by decide),box_tag9 h.b2⟩,fun x hx => ?_,rc_box vaWd noVaA h.b3 rfl (show (1:Nat) ≤ 9223372036854775807 by decide),box_tag9 h.b3⟩
 ·have e:x = ⟨[65,100,100],[],[[116],[99]],some ⟨k5,0,none⟩,2,[[121]],some ⟨k6,0,none⟩,1,[],none,0⟩ ∨ x = ⟨[82,101,108,117],[],[s],some ⟨k7,0,none⟩,1,[[116]],some ⟨k8,0,none⟩,1,[],none,0⟩:=by simpa [awG] using hx
  rcases e with e | e <;> subst e
  ·exact ⟨isB1 _ rfl,isB1 _ rfl,⟨fun y hy => (by simp at hy; rcases hy with rfl | rfl <;> exact isB1 _ rfl),box_ls9 strV h.b5 [[116],[99]] rfl (by decide),box_tag9 h.b5⟩,⟨fun y hy => (by simp at hy; subst hy; exact isB1 _ rfl),box_ls9 strV h.b6 [[121]] rfl (by decide),box_tag9 h.b6⟩,fun y hy => (by cases hy),Rc.nil u,Tag.nil _ _ _ _⟩
  ·exact ⟨isB1 _ rfl,isB1 _ rfl,⟨fun y hy => (by simp at hy; subst hy; exact hs),box_ls9 strV h.b7 [s] rfl (show (1:Nat) ≤ 1000 by decide),box_tag9 h.b7⟩,⟨fun y hy => (by simp at hy; subst hy; exact isB1 _ rfl),box_ls9 strV h.b8 [[116]] rfl (by decide),box_tag9 h.b8⟩,fun y hy => (by cases hy),Rc.nil u,Tag.nil _ _ _ _⟩
 ·have e:x = ⟨[99],(1,[],[1],[],[]),⟨none,0,some ⟨k0,0,none⟩,1,none,0,none,0⟩⟩:=by simpa [awG] using hx
  subst e
  exact ⟨isB1 _ rfl,⟨rfl,nilInts _ _,(box_ls9 (Value.int .u32) h.b0 [1] rfl (by decide)).ints (by decide),nilInts _ _,Ls.nil _⟩,Tag.nil _ _ _ _,box_tag9 h.b0,Tag.nil _ _ _ _,Tag.nil _ _ _ _⟩
 ·have e:x = ⟨[120],1,[],none,0⟩:=by simpa [awG] using hx
  subst e
  exact ⟨isB1 _ rfl,rfl,nilInts _ _,Tag.nil _ _ _ _⟩
 ·have e:x = ⟨[121],1,[],none,0⟩:=by simpa [awG] using hx
  subst e
  exact ⟨isB1 _ rfl,rfl,nilInts _ _,Tag.nil _ _ _ _⟩
theorem awG_lt (k0 k1 k2 k3 k5 k6 k7 k8 k9:Nat) (s:Str):MoLt (awG k0 k1 k2 k3 k5 k6 k7 k8 k9 s):=by
 refine ⟨fun x hx => ?_,fun x hx => ?_⟩
 ·have e:x = ⟨[65,100,100],[],[[116],[99]],some ⟨k5,0,none⟩,2,[[121]],some ⟨k6,0,none⟩,1,[],none,0⟩ ∨ x = ⟨[82,101,108,117],[],[s],some ⟨k7,0,none⟩,1,[[116]],some ⟨k8,0,none⟩,1,[],none,0⟩:=by simpa [awG] using hx
  rcases e with e | e <;> subst e <;> exact fun y hy => (by cases hy)
 ·have e:x = ⟨[99],(1,[],[1],[],[]),⟨none,0,some ⟨k0,0,none⟩,1,none,0,none,0⟩⟩:=by simpa [awG] using hx
  subst e
  exact ⟨Nat.zero_le _,(show (1:Nat) ≤ 140737488355328 by decide),Nat.zero_le _,Nat.zero_le _⟩
theorem aw_one:(buildV (awD [120])).2 = (0,0) ∧ (buildV (awD [120])).1.nodes.map (fun n => (n.op,n.ins,n.outs,n.src)) = [(16,[1],[3],1),(28,[3,0],[2],0)] ∧ (buildV (awD [120])).1.vals.length = 4 ∧ (buildV (awD [120])).1.inp = [1] ∧ (buildV (awD [120])).1.out = [2]:=by decide +kernel
theorem aw_check:checkG (buildV (awD [120])).1 = 0:=by decide +kernel
theorem aw_live:liveG (buildV (awD [120])).1 = [true,true]:=by decide +kernel
theorem aw_two:(buildV (awD [121])).2 = (12,0):=by decide +kernel
theorem aw_three:(buildV (awD [122])).2 = (13,1):=by decide +kernel
theorem aw_shape {OK:Nat → Prop} {w:World} {a:GrA} (hd:a.d = (buildV (awD [120])).1) (hg:GrIn OK w a):∃ bn on' bi oi ci,a.qn = some ⟨bn,on',none⟩ ∧ OK bn ∧ OK bi ∧ bn < w.heap.size ∧ bi < w.heap.size ∧
  ∀ v,Hold OK w v → v.cell? ⟨bn,on',none⟩ = some (.int .i64 16) ∧ v.cell? ⟨bn,on' + 39,none⟩ = some (.int .i64 1) ∧ v.cell? ⟨bn,on' + 40 + 37,none⟩ = some (.slice (some ⟨bi,oi,none⟩) 2 ci) ∧ v.cell? ⟨bi,oi,none⟩ = some (.int .i64 3) ∧ v.cell? ⟨bi,oi + 1,none⟩ = some (.int .i64 0):=by
 have f2:=aw_one.2.1
 rw [← hd] at f2
 obtain ⟨vals,qv,cv,nodes,qn,cn,inp,qi,ci,out,qo,co⟩:=a
 have hN:=hg.2.1
 simp only at hN ⊢
 have e2:(nodes.map GnA.d).map (fun n => (n.op,n.ins,n.outs,n.src)) = [((16:Int),[(1:Int)],[(3:Int)],(1:Int)),(28,[3,0],[2],0)]:=f2
 rcases nodes with _ | ⟨n0,_ | ⟨n1,_ | ⟨n2,r⟩⟩⟩
 ·simp at e2
 ·simp at e2
 ·skip
  simp only [List.map_cons,List.map_nil,List.cons.injEq,Prod.mk.injEq,and_true] at e2
  obtain ⟨⟨h1,h2,h3,h4⟩,h5,h6,h7,h8⟩:=e2
  replace h1:n0.op = 16:=h1
  replace h4:n0.src = 1:=h4
  replace h6:n1.ins = [3,0]:=h6
  obtain ⟨bn,on',eq,hbn,_⟩:=hN.1.lies (show 0 < [n0,n1].length by simp)
  subst eq
  have hI:=(hN.2.2 n1 (by simp)).2.2.1
  have hlI:0 < n1.ins.length:=by rw [h6]; decide
  obtain ⟨bi,oi,ei,hbi,_⟩:=hI.1.ls.lies hlI
  refine ⟨bn,on',bi,oi,n1.ci,rfl,hN.2.1 bn on' rfl (by simp),hI.2 bi oi ei hlI,hbn,hbi,fun v hv => ?_⟩
  have hR:=(hN.hold gnP hv).1
  have A0:=Rc.at9 hR (i:=0) (by simp)
  have A1:=Rc.at9 hR (i:=1) (by simp)
  have g0:=A0 0 _ (gn_0 n0)
  have g39:=A0 39 _ (gn_39 n0)
  have g37:=A1 37 _ (gn_37 n1)
  rw [h1] at g0
  rw [h4] at g39
  rw [h6,ei] at g37
  obtain ⟨b',o',e',_,hc⟩:=(hI.hold hv).1.ls.lies hlI
  rw [ei] at e'
  cases e'
  have c0:=hc 0 hlI
  have c1:=hc 1 (by rw [h6]; decide)
  rw [h6] at c0 c1
  refine ⟨?_,?_,?_,c0,c1⟩
  ·simpa using g0
  ·simpa using g39
  ·simpa using g37
 ·simp at e2
theorem awake9_any (w:World):Calls Tryz.prog 8 #[] w fun e w' => e = .returned (.bool true) ∧ Below w.heap.size w w':=by
 obtain ⟨U,hU⟩:∃ U,(((((w.alloc (Obj.cells #[.int .u32 1] 43)).alloc (Obj.cells #[.string { data:=#[99] },.int .i64 1,.slice none 0 0,.slice (some ⟨w.heap.size,0,none⟩) 1 1,.slice none 0 0,.slice none 0 0] 61)).alloc (Obj.cells #[.string { data:=#[120] },.int .i64 1,.slice none 0 0] 63)).alloc (Obj.cells #[.string { data:=#[121] },.int .i64 1,.slice none 0 0] 63)).alloc (Obj.cells #[.int .i64 17,.string { data:=#[] },.slice none 0 0,.slice (some ⟨w.heap.size + 1,0,none⟩) 1 1,.slice (some ⟨w.heap.size + 1 + 1,0,none⟩) 1 1,.slice (some ⟨w.heap.size + 1 + 1 + 1,0,none⟩) 1 1] 26)) = U:=⟨_,rfl⟩
 have BU:Hid (Below w.heap.size w U):=hide (by rw [← hU]; exact bl_tr (bl_tr (bl_tr (bl_tr (al1p _ _) (al1p _ _)) (al1p _ _)) (al1p _ _)) (al1p _ _))
 have X0:Hid (Box U (w.heap.size) #[.int .u32 1] 43):=hide (by rw [← hU]; have h:=Box.new w #[.int .u32 1] 43; (try simp only [World.size_alloc] at h); exact ((((h).alloc _).alloc _).alloc _).alloc _)
 have X1:Hid (Box U (w.heap.size + 1) #[.string { data:=#[99] },.int .i64 1,.slice none 0 0,.slice (some ⟨w.heap.size,0,none⟩) 1 1,.slice none 0 0,.slice none 0 0] 61):=hide (by rw [← hU]; have h:=Box.new (w.alloc (Obj.cells #[.int .u32 1] 43)) #[.string { data:=#[99] },.int .i64 1,.slice none 0 0,.slice (some ⟨w.heap.size,0,none⟩) 1 1,.slice none 0 0,.slice none 0 0] 61; (try simp only [World.size_alloc] at h); exact (((h).alloc _).alloc _).alloc _)
 have X2:Hid (Box U (w.heap.size + 1 + 1) #[.string { data:=#[120] },.int .i64 1,.slice none 0 0] 63):=hide (by rw [← hU]; have h:=Box.new ((w.alloc (Obj.cells #[.int .u32 1] 43)).alloc (Obj.cells #[.string { data:=#[99] },.int .i64 1,.slice none 0 0,.slice (some ⟨w.heap.size,0,none⟩) 1 1,.slice none 0 0,.slice none 0 0] 61)) #[.string { data:=#[120] },.int .i64 1,.slice none 0 0] 63; (try simp only [World.size_alloc] at h); exact ((h).alloc _).alloc _)
 have X3:Hid (Box U (w.heap.size + 1 + 1 + 1) #[.string { data:=#[121] },.int .i64 1,.slice none 0 0] 63):=hide (by rw [← hU]; have h:=Box.new (((w.alloc (Obj.cells #[.int .u32 1] 43)).alloc (Obj.cells #[.string { data:=#[99] },.int .i64 1,.slice none 0 0,.slice (some ⟨w.heap.size,0,none⟩) 1 1,.slice none 0 0,.slice none 0 0] 61)).alloc (Obj.cells #[.string { data:=#[120] },.int .i64 1,.slice none 0 0] 63)) #[.string { data:=#[121] },.int .i64 1,.slice none 0 0] 63; (try simp only [World.size_alloc] at h); exact (h).alloc _)
 have X4:Hid (Box U (w.heap.size + 1 + 1 + 1 + 1) #[.int .i64 17,.string { data:=#[] },.slice none 0 0,.slice (some ⟨w.heap.size + 1,0,none⟩) 1 1,.slice (some ⟨w.heap.size + 1 + 1,0,none⟩) 1 1,.slice (some ⟨w.heap.size + 1 + 1 + 1,0,none⟩) 1 1] 26):=hide (by rw [← hU]; have h:=Box.new ((((w.alloc (Obj.cells #[.int .u32 1] 43)).alloc (Obj.cells #[.string { data:=#[99] },.int .i64 1,.slice none 0 0,.slice (some ⟨w.heap.size,0,none⟩) 1 1,.slice none 0 0,.slice none 0 0] 61)).alloc (Obj.cells #[.string { data:=#[120] },.int .i64 1,.slice none 0 0] 63)).alloc (Obj.cells #[.string { data:=#[121] },.int .i64 1,.slice none 0 0] 63)) #[.int .i64 17,.string { data:=#[] },.slice none 0 0,.slice (some ⟨w.heap.size + 1,0,none⟩) 1 1,.slice (some ⟨w.heap.size + 1 + 1,0,none⟩) 1 1,.slice (some ⟨w.heap.size + 1 + 1 + 1,0,none⟩) 1 1] 26; (try simp only [World.size_alloc] at h); exact h)
 have HK:Hid (w.heap.size < U.heap.size):=hide (uh X0).lt
 go_enter Tryz.func8,Tryz.ntmps8
 go_upto_region 2 with fail
 (try rw [hU])
 clear hU
 obtain ⟨k4,hk4⟩:∃ k,w.heap.size + 1 + 1 + 1 + 1 = k:=⟨_,rfl⟩
 have HK4:=hide hk4
 rw [hk4] at X4 ⊢
 clear hk4
 obtain ⟨k3,hk3⟩:∃ k,w.heap.size + 1 + 1 + 1 = k:=⟨_,rfl⟩
 have HK3:=hide hk3
 rw [hk3] at X3 X4 ⊢
 clear hk3
 obtain ⟨k2,hk2⟩:∃ k,w.heap.size + 1 + 1 = k:=⟨_,rfl⟩
 have HK2:=hide hk2
 rw [hk2] at X2 X4 ⊢
 clear hk2
 obtain ⟨k1,hk1⟩:∃ k,w.heap.size + 1 = k:=⟨_,rfl⟩
 have HK1:=hide hk1
 rw [hk1] at X1 X4 ⊢
 clear hk1
 obtain ⟨k0,hk0⟩:∃ k,w.heap.size = k:=⟨_,rfl⟩
 have HK0:=hide hk0
 rw [hk0] at X0 X1
 clear hk0
 have x4:=(uh X4).cell
 have l4:=(uh X4).lt
 have f4:=(uh X4).frozen
 obtain ⟨V,hV⟩:∃ V,(((((U.alloc (Obj.cells #[.string { data:=#[116] },.string { data:=#[99] }] 9)).alloc (Obj.cells #[.string { data:=#[121] }] 9)).alloc (Obj.cells #[.string { data:=#[120] }] 9)).alloc (Obj.cells #[.string { data:=#[116] }] 9)).alloc (Obj.cells #[.string { data:=#[65,100,100] },.string { data:=#[] },.slice (some ⟨U.heap.size,0,none⟩) 2 2,.slice (some ⟨U.heap.size + 1,0,none⟩) 1 1,.slice none 0 0,.string { data:=#[82,101,108,117] },.string { data:=#[] },.slice (some ⟨U.heap.size + 1 + 1,0,none⟩) 1 1,.slice (some ⟨U.heap.size + 1 + 1 + 1,0,none⟩) 1 1,.slice none 0 0] 55)) = V:=⟨_,rfl⟩
 have BV:Hid (Below U.heap.size U V):=hide (by rw [← hV]; exact bl_tr (bl_tr (bl_tr (bl_tr (al1p _ _) (al1p _ _)) (al1p _ _)) (al1p _ _)) (al1p _ _))
 have Y5:Hid (Box V (U.heap.size) #[.string { data:=#[116] },.string { data:=#[99] }] 9):=hide (by rw [← hV]; have h:=Box.new U #[.string { data:=#[116] },.string { data:=#[99] }] 9; (try simp only [World.size_alloc] at h); exact ((((h).alloc _).alloc _).alloc _).alloc _)
 have Y6:Hid (Box V (U.heap.size + 1) #[.string { data:=#[121] }] 9):=hide (by rw [← hV]; have h:=Box.new (U.alloc (Obj.cells #[.string { data:=#[116] },.string { data:=#[99] }] 9)) #[.string { data:=#[121] }] 9; (try simp only [World.size_alloc] at h); exact (((h).alloc _).alloc _).alloc _)
 have Y7:Hid (Box V (U.heap.size + 1 + 1) #[.string { data:=#[120] }] 9):=hide (by rw [← hV]; have h:=Box.new ((U.alloc (Obj.cells #[.string { data:=#[116] },.string { data:=#[99] }] 9)).alloc (Obj.cells #[.string { data:=#[121] }] 9)) #[.string { data:=#[120] }] 9; (try simp only [World.size_alloc] at h); exact ((h).alloc _).alloc _)
 have Y8:Hid (Box V (U.heap.size + 1 + 1 + 1) #[.string { data:=#[116] }] 9):=hide (by rw [← hV]; have h:=Box.new (((U.alloc (Obj.cells #[.string { data:=#[116] },.string { data:=#[99] }] 9)).alloc (Obj.cells #[.string { data:=#[121] }] 9)).alloc (Obj.cells #[.string { data:=#[120] }] 9)) #[.string { data:=#[116] }] 9; (try simp only [World.size_alloc] at h); exact (h).alloc _)
 have Y9:Hid (Box V (U.heap.size + 1 + 1 + 1 + 1) #[.string { data:=#[65,100,100] },.string { data:=#[] },.slice (some ⟨U.heap.size,0,none⟩) 2 2,.slice (some ⟨U.heap.size + 1,0,none⟩) 1 1,.slice none 0 0,.string { data:=#[82,101,108,117] },.string { data:=#[] },.slice (some ⟨U.heap.size + 1 + 1,0,none⟩) 1 1,.slice (some ⟨U.heap.size + 1 + 1 + 1,0,none⟩) 1 1,.slice none 0 0] 55):=hide (by rw [← hV]; have h:=Box.new ((((U.alloc (Obj.cells #[.string { data:=#[116] },.string { data:=#[99] }] 9)).alloc (Obj.cells #[.string { data:=#[121] }] 9)).alloc (Obj.cells #[.string { data:=#[120] }] 9)).alloc (Obj.cells #[.string { data:=#[116] }] 9)) #[.string { data:=#[65,100,100] },.string { data:=#[] },.slice (some ⟨U.heap.size,0,none⟩) 2 2,.slice (some ⟨U.heap.size + 1,0,none⟩) 1 1,.slice none 0 0,.string { data:=#[82,101,108,117] },.string { data:=#[] },.slice (some ⟨U.heap.size + 1 + 1,0,none⟩) 1 1,.slice (some ⟨U.heap.size + 1 + 1 + 1,0,none⟩) 1 1,.slice none 0 0] 55; (try simp only [World.size_alloc] at h); exact h)
 have XV:=hide ((uh X4).below (uh BV))
 have xv:=(uh XV).cell
 have lv:=(uh XV).lt
 have fv:=(uh XV).frozen
 clear x4 l4 f4
 go_upto_region 3 with fail
 obtain ⟨k9,hk9⟩:∃ k,U.heap.size + 1 + 1 + 1 + 1 = k:=⟨_,rfl⟩
 have HK9:=hide hk9
 rw [hk9] at Y9 ⊢
 clear hk9
 obtain ⟨k8,hk8⟩:∃ k,U.heap.size + 1 + 1 + 1 = k:=⟨_,rfl⟩
 have HK8:=hide hk8
 rw [hk8] at Y8 Y9 ⊢
 clear hk8
 obtain ⟨k7,hk7⟩:∃ k,U.heap.size + 1 + 1 = k:=⟨_,rfl⟩
 have HK7:=hide hk7
 rw [hk7] at Y7 Y9 ⊢
 clear hk7
 obtain ⟨k6,hk6⟩:∃ k,U.heap.size + 1 = k:=⟨_,rfl⟩
 have HK6:=hide hk6
 rw [hk6] at Y6 Y9 ⊢
 clear hk6
 obtain ⟨k5,hk5⟩:∃ k,U.heap.size = k:=⟨_,rfl⟩
 have HK5:=hide hk5
 rw [hk5] at Y5 Y9 ⊢
 clear hk5
 have HNE:Hid ((k0 ≠ k4 ∧ k1 ≠ k4 ∧ k2 ≠ k4 ∧ k3 ≠ k4) ∧ (k5 ≠ k4 ∧ k6 ≠ k4 ∧ k7 ≠ k4 ∧ k8 ≠ k4 ∧ k9 ≠ k4) ∧ (k0 ≠ k7 ∧ k1 ≠ k7 ∧ k2 ≠ k7 ∧ k3 ≠ k7 ∧ k4 ≠ k7) ∧ (k5 ≠ k7 ∧ k6 ≠ k7 ∧ k8 ≠ k7 ∧ k9 ≠ k7) ∧ w.heap.size ≤ k4 ∧ w.heap.size ≤ k7):=hide (by
  have:=(uh X4).lt
  have:=uh HK0; have:=uh HK1; have:=uh HK2; have:=uh HK3; have:=uh HK4
  have:=uh HK5; have:=uh HK6; have:=uh HK7; have:=uh HK8; have:=uh HK9
  omega)
 obtain ⟨Z,hZ⟩:∃ Z,V.setCell ⟨k4,2,none⟩ (.slice (some ⟨k9,0,none⟩) 2 2) = Z:=⟨_,rfl⟩
 have AW:Hid (AwB Z k0 k1 k2 k3 k5 k6 k7 k8 k9 [120]):=hide (by
  obtain ⟨⟨n0,n1,n2,n3⟩,⟨n5,n6,n7,n8,n9⟩,_⟩:=uh HNE
  rw [← hZ]
  exact ⟨Box.other ((uh X0).below (uh BV)) n0 _ _,Box.other ((uh X1).below (uh BV)) n1 _ _,Box.other ((uh X2).below (uh BV)) n2 _ _,Box.other ((uh X3).below (uh BV)) n3 _ _,Box.other (uh Y5) n5 _ _,Box.other (uh Y6) n6 _ _,Box.other (uh Y7) n7 _ _,Box.other (uh Y8) n8 _ _,Box.other (uh Y9) n9 _ _⟩)
 have MZ:Hid (Box Z k4 #[.int .i64 17,.string { data:=#[] },.slice (some ⟨k9,0,none⟩) 2 2,.slice (some ⟨k1,0,none⟩) 1 1,.slice (some ⟨k2,0,none⟩) 1 1,.slice (some ⟨k3,0,none⟩) 1 1] 26):=hide (by rw [← hZ]; exact Box.same (uh XV) 2 _)
 have BZ:Hid (Below w.heap.size w Z):=hide (by rw [← hZ]; exact Below.setCell (bl_tr (uh BU) (uh BV)) (uh HNE).2.2.2.2.1 _)
 have CB:=hide (fun v s (hv:AwB v k0 k1 k2 k3 k5 k6 k7 k8 k9 s) (hs:isB s) => cbuild9_any (awG k0 k1 k2 k3 k5 k6 k7 k8 k9 s) 0 v (awG_in hv hs) (awG_lt k0 k1 k2 k3 k5 k6 k7 k8 k9 s))
 simp only [awG_d] at CB
 (try rw [hZ])
 clear hZ hV xv lv fv X0 X1 X2 X3 X4 Y5 Y6 Y7 Y8 Y9 XV
 have CB1:Hid (Calls Tryz.prog 9 #[.agg #[.int .i64 17,.string { data:=#[] },.slice (some ⟨k9,0,none⟩) 2 2,.slice (some ⟨k1,0,none⟩) 1 1,.slice (some ⟨k2,0,none⟩) 1 1,.slice (some ⟨k3,0,none⟩) 1 1]] Z fun e w' => ∃ a:GrA,e = .returned (.tuple #[.agg #[.slice a.qv 4 a.cv,.slice a.qn 2 a.cn,.slice a.qi 1 a.ci,.slice a.qo 1 a.co],.int .i64 0,.int .i64 0]) ∧ Hid (a.d = (buildV (awD [120])).1) ∧ Hid (GrIn (fun b => Z.heap.size ≤ b) w' a) ∧ Below Z.heap.size Z w'):=hide ((uh CB Z [120] (uh AW) (isB1 _ rfl)).mono (by
  rintro e w' ⟨a,he,hd,hg,hb⟩
  obtain ⟨f1,f2,f3,f4,f5⟩:=aw_one
  rw [← hd] at f2 f3 f4 f5
  have l1:a.vals.length = 4:=by simpa [GrA.d] using f3
  have l2:a.nodes.length = 2:=by simpa [GrA.d] using congrArg List.length f2
  have l3:a.inp.length = 1:=by simpa [GrA.d] using congrArg List.length f4
  have l4:a.out.length = 1:=by simpa [GrA.d] using congrArg List.length f5
  refine ⟨a,?_,hide hd,hide hg,hb⟩
  rw [he,f1]
  unfold grV grCells
  rw [l1,l2,l3,l4]))
 have mz:=(uh MZ).cell
 go_wp2_with fail
 refine (uh CB1).mono ?_
 rintro e w2 ⟨a,rfl,hd,hg,hb⟩
 obtain ⟨bn,on',bi,oi,ci',hqn,okn,oki,hbn,hbi,hcs⟩:=aw_shape (uh hd) (uh hg)
 have HCS:=hide hcs
 have HGD:=hd
 have HGG:=hg
 have B2:=hide (bl_tr (uh BZ) hb)
 have AW2:=hide ((uh AW).below hb)
 have MZ2:=hide ((uh MZ).below hb)
 have HZS:Hid (Z.heap.size ≤ w2.heap.size ∧ Z.heap.size ≤ bn ∧ Z.heap.size ≤ bi ∧ bn < w2.heap.size ∧ bi < w2.heap.size):=hide ⟨hb.size,okn,oki,hbn,hbi⟩
 have HK7Z:Hid (k7 < Z.heap.size ∧ k4 < Z.heap.size ∧ k9 < Z.heap.size):=hide ⟨(uh AW).b7.lt,(uh MZ).lt,(uh AW).b9.lt⟩
 obtain ⟨vals,qv,cv,nodes,qn,cn,inp,qi,ci,out,qo,co⟩:=a
 simp only at hqn HGD HGG ⊢
 subst hqn
 clear hcs okn oki hbn hbi hb hd hg mz CB1
 obtain ⟨W3,hW3⟩:∃ W,w2.alloc (.cells #[.slice qv 4 cv,.slice (some ⟨bn,on',none⟩) 2 cn,.slice qi 1 ci,.slice qo 1 co] 32) = W:=⟨_,rfl⟩
 have G3:Hid (Box W3 w2.heap.size #[.slice qv 4 cv,.slice (some ⟨bn,on',none⟩) 2 cn,.slice qi 1 ci,.slice qo 1 co] 32):=hide (by rw [← hW3]; exact Box.new _ _ _)
 have K3:Hid (Below w2.heap.size w2 W3):=hide (by rw [← hW3]; exact al1p _ _)
 have g3:=(uh G3).cell
 have H3:Hid (Hold (fun b => Z.heap.size ≤ b) w2 W3):=hide (Hold.below (uh K3))
 obtain ⟨c1,c2,c3,c4,c5⟩:=uh HCS W3 (uh H3)
 have MZ3:=hide ((uh MZ2).below (uh K3))
 have AW3:=hide ((uh AW2).below (uh K3))
 have m3:=(uh MZ3).cell
 have a9:=(uh AW3).b9.cell
 have a7:=(uh AW3).b7.cell
 have a7l:=(uh AW3).b7.lt
 have a7f:=(uh AW3).b7.frozen
 go_upto_region 4 with fail
 (try rw [hW3])
 clear hW3
 obtain ⟨kg,hkg⟩:∃ k,w2.heap.size = k:=⟨_,rfl⟩
 have HKG:=hide hkg
 rw [hkg] at G3 g3 ⊢
 clear hkg
 have B3:=hide (bl_tr (uh B2) (uh K3))
 go_upto_region 6 with fail
 go_upto_region 7 with fail
 obtain ⟨W4,hW4⟩:∃ V,W3.setCell ⟨k7,0,none⟩ (.string { data:=#[121] }) = V:=⟨_,rfl⟩
 have AW4:Hid (AwB W4 k0 k1 k2 k3 k5 k6 k7 k8 k9 [121]):=hide (by
  obtain ⟨_,_,⟨n0,n1,n2,n3,_⟩,⟨n5,n6,n8,n9⟩,_⟩:=uh HNE
  rw [← hW4]
  have q:=uh AW3
  exact ⟨Box.other q.b0 n0 _ _,Box.other q.b1 n1 _ _,Box.other q.b2 n2 _ _,Box.other q.b3 n3 _ _,Box.other q.b5 n5 _ _,Box.other q.b6 n6 _ _,Box.same q.b7 0 _,Box.other q.b8 n8 _ _,Box.other q.b9 n9 _ _⟩)
 have MZ4:Hid (Box W4 k4 #[.int .i64 17,.string { data:=#[] },.slice (some ⟨k9,0,none⟩) 2 2,.slice (some ⟨k1,0,none⟩) 1 1,.slice (some ⟨k2,0,none⟩) 1 1,.slice (some ⟨k3,0,none⟩) 1 1] 26):=hide (by rw [← hW4]; exact Box.other (uh MZ3) (uh HNE).2.2.1.2.2.2.2 _ _)
 have G4:Hid (Box W4 kg #[.slice qv 4 cv,.slice (some ⟨bn,on',none⟩) 2 cn,.slice qi 1 ci,.slice qo 1 co] 32):=hide (by rw [← hW4]; exact Box.other (uh G3) (by have:=uh HKG; have:=(uh HZS).1; have:=(uh HK7Z).1; omega) _ _)
 have H4:Hid (Hold (fun b => Z.heap.size ≤ b) w2 W4):=hide (by rw [← hW4]; exact (uh H3).trans (Hold.stay (Stay.set8 _) (by have:=(uh HK7Z).1; omega)))
 have B4:Hid (Below w.heap.size w W4):=hide (by rw [← hW4]; exact Below.setCell (uh B3) (uh HNE).2.2.2.2.2 _)
 (try rw [hW4])
 clear hW4 m3 a9 a7 a7l a7f g3 c1 c2 c3 c4 c5
 have CB4:Hid (Calls Tryz.prog 9 #[.agg #[.int .i64 17,.string { data:=#[] },.slice (some ⟨k9,0,none⟩) 2 2,.slice (some ⟨k1,0,none⟩) 1 1,.slice (some ⟨k2,0,none⟩) 1 1,.slice (some ⟨k3,0,none⟩) 1 1]] W4 fun e w' => ∃ a:GrA,e = .returned (.tuple #[.agg #[.slice a.qv a.vals.length a.cv,.slice a.qn a.nodes.length a.cn,.slice a.qi a.inp.length a.ci,.slice a.qo a.out.length a.co],.int .i64 12,.int .i64 0]) ∧ Below W4.heap.size W4 w'):=hide ((uh CB W4 [121] (uh AW4) (isB1 _ rfl)).mono (by
  rintro e w' ⟨a,he,hd,hg,hb⟩
  refine ⟨a,?_,hb⟩
  rw [he,aw_two]
  rfl))
 have m4:=(uh MZ4).cell
 go_wp2_with fail
 refine (uh CB4).mono ?_
 rintro e w5 ⟨a5,rfl,hb⟩
 obtain ⟨vals5,qv5,cv5,nodes5,qn5,cn5,inp5,qi5,ci5,out5,qo5,co5⟩:=a5
 simp only
 obtain ⟨W6,hW6⟩:∃ W,w5.alloc (.cells #[.slice qv5 vals5.length cv5,.slice qn5 nodes5.length cn5,.slice qi5 inp5.length ci5,.slice qo5 out5.length co5] 32) = W:=⟨_,rfl⟩
 have K6:Hid (Below W4.heap.size W4 W6):=hide (by rw [← hW6]; exact bl_tr hb (al1p _ _))
 have MZ6:=hide ((uh MZ4).below (uh K6))
 have AW6:=hide ((uh AW4).below (uh K6))
 have G6:=hide ((uh G4).below (uh K6))
 have H6:=hide ((uh H4).trans (Hold.below (uh K6)))
 have B6:=hide (bl_tr (uh B4) (uh K6))
 have m6:=(uh MZ6).cell
 clear m4
 have a9:=(uh AW6).b9.cell
 have a7:=(uh AW6).b7.cell
 have a7l:=(uh AW6).b7.lt
 have a7f:=(uh AW6).b7.frozen
 clear hb
 go_upto_region 8 with fail
 (try rw [hW6])
 clear hW6
 go_upto_region 9 with fail
 obtain ⟨W7,hW7⟩:∃ V,W6.setCell ⟨k7,0,none⟩ (.string { data:=#[122] }) = V:=⟨_,rfl⟩
 have AW7:Hid (AwB W7 k0 k1 k2 k3 k5 k6 k7 k8 k9 [122]):=hide (by
  obtain ⟨_,_,⟨n0,n1,n2,n3,_⟩,⟨n5,n6,n8,n9⟩,_⟩:=uh HNE
  rw [← hW7]
  have q:=uh AW6
  exact ⟨Box.other q.b0 n0 _ _,Box.other q.b1 n1 _ _,Box.other q.b2 n2 _ _,Box.other q.b3 n3 _ _,Box.other q.b5 n5 _ _,Box.other q.b6 n6 _ _,Box.same q.b7 0 _,Box.other q.b8 n8 _ _,Box.other q.b9 n9 _ _⟩)
 have MZ7:Hid (Box W7 k4 #[.int .i64 17,.string { data:=#[] },.slice (some ⟨k9,0,none⟩) 2 2,.slice (some ⟨k1,0,none⟩) 1 1,.slice (some ⟨k2,0,none⟩) 1 1,.slice (some ⟨k3,0,none⟩) 1 1] 26):=hide (by rw [← hW7]; exact Box.other (uh MZ6) (uh HNE).2.2.1.2.2.2.2 _ _)
 have G7:Hid (Box W7 kg #[.slice qv 4 cv,.slice (some ⟨bn,on',none⟩) 2 cn,.slice qi 1 ci,.slice qo 1 co] 32):=hide (by rw [← hW7]; exact Box.other (uh G6) (by have:=uh HKG; have:=(uh HZS).1; have:=(uh HK7Z).1; omega) _ _)
 have H7:Hid (Hold (fun b => Z.heap.size ≤ b) w2 W7):=hide (by rw [← hW7]; exact (uh H6).trans (Hold.stay (Stay.set8 _) (by have:=(uh HK7Z).1; omega)))
 have B7:Hid (Below w.heap.size w W7):=hide (by rw [← hW7]; exact Below.setCell (uh B6) (uh HNE).2.2.2.2.2 _)
 (try rw [hW7])
 clear hW7 m6 a9 a7 a7l a7f 
 have CB7:Hid (Calls Tryz.prog 9 #[.agg #[.int .i64 17,.string { data:=#[] },.slice (some ⟨k9,0,none⟩) 2 2,.slice (some ⟨k1,0,none⟩) 1 1,.slice (some ⟨k2,0,none⟩) 1 1,.slice (some ⟨k3,0,none⟩) 1 1]] W7 fun e w' => ∃ a:GrA,e = .returned (.tuple #[.agg #[.slice a.qv a.vals.length a.cv,.slice a.qn a.nodes.length a.cn,.slice a.qi a.inp.length a.ci,.slice a.qo a.out.length a.co],.int .i64 13,.int .i64 1]) ∧ Below W7.heap.size W7 w'):=hide ((uh CB W7 [122] (uh AW7) (isB1 _ rfl)).mono (by
  rintro e w' ⟨a,he,hd,hg,hb⟩
  refine ⟨a,?_,hb⟩
  rw [he,aw_three]
  rfl))
 have m7:=(uh MZ7).cell
 go_wp2_with fail
 refine (uh CB7).mono ?_
 rintro e w8 ⟨a8,rfl,hb⟩
 obtain ⟨vals8,qv8,cv8,nodes8,qn8,cn8,inp8,qi8,ci8,out8,qo8,co8⟩:=a8
 simp only
 obtain ⟨W9,hW9⟩:∃ W,w8.alloc (.cells #[.slice qv8 vals8.length cv8,.slice qn8 nodes8.length cn8,.slice qi8 inp8.length ci8,.slice qo8 out8.length co8] 32) = W:=⟨_,rfl⟩
 have K9:Hid (Below W7.heap.size W7 W9):=hide (by rw [← hW9]; exact bl_tr hb (al1p _ _))
 have MZ9:=hide ((uh MZ7).below (uh K9))
 have AW9:=hide ((uh AW7).below (uh K9))
 have G9:=hide ((uh G7).below (uh K9))
 have H9:=hide ((uh H7).trans (Hold.below (uh K9)))
 have B9:=hide (bl_tr (uh B7) (uh K9))
 have m9:=(uh MZ9).cell
 clear m7
 clear hb m9
 have g9:=(uh G9).cell
 have GI:Hid (GrIn (fun b => Z.heap.size ≤ b) W9 ⟨vals,qv,cv,nodes,some ⟨bn,on',none⟩,cn,inp,qi,ci,out,qo,co⟩):=hide (grP.hold (uh HGG) (uh H9))
 have HLE:Hid (vals.length = 4 ∧ nodes.length = 2 ∧ inp.length = 1 ∧ out.length = 1 ∧ (nodes.map fun n => n.ins.length).sum = 3 ∧ (nodes.map fun n => n.outs.length).sum = 2):=hide (by
  obtain ⟨f1,f2,f3,f4,f5⟩:=aw_one
  rw [← uh HGD] at f2 f3 f4 f5
  have q1:=congrArg (fun l:List (Int × List Int × List Int × Int) => (l.map fun t => t.2.1.length).sum) f2
  have q2:=congrArg (fun l:List (Int × List Int × List Int × Int) => (l.map fun t => t.2.2.1.length).sum) f2
  simp only [GrA.d,List.map_map] at q1 q2
  refine ⟨by simpa [GrA.d] using f3,by simpa [GrA.d] using congrArg List.length f2,by simpa [GrA.d] using congrArg List.length f4,by simpa [GrA.d] using congrArg List.length f5,?_,?_⟩
  ·exact q1
  ·exact q2)
 have CL:Hid (Calls Tryz.prog 13 #[.agg #[.slice qv 4 cv,.slice (some ⟨bn,on',none⟩) 2 cn,.slice qi 1 ci,.slice qo 1 co]] W9 fun e w' => (∃ b,e = .returned (.slice (some ⟨b,0,none⟩) 2 2) ∧ Bm w' b [true,true]) ∧ Below W9.heap.size W9 w'):=hide (by
  obtain ⟨l1,l2,l3,l4,l5,l6⟩:=uh HLE
  have h:=clive9_any _ _ W9 (uh GI) (by simp only; omega) (by simp only; omega)
  unfold grV grCells at h
  simp only [l1,l2,l3,l4] at h
  refine h.mono ?_
  rintro e w' ⟨⟨b,he,_,hm⟩,hb⟩
  refine ⟨⟨b,he,?_⟩,hb⟩
  rw [uh HGD,aw_live] at hm
  exact hm)
 have CK:Hid (∀ v,Below W9.heap.size W9 v → Calls Tryz.prog 12 #[.agg #[.slice qv 4 cv,.slice (some ⟨bn,on',none⟩) 2 cn,.slice qi 1 ci,.slice qo 1 co]] v fun e w' => e = .returned (.int .i64 0) ∧ Below v.heap.size v w'):=hide (fun v hv => by
  obtain ⟨l1,l2,l3,l4,l5,l6⟩:=uh HLE
  have h:=ccheck9_any _ _ v (grP.hold (uh GI) (Hold.below hv)) (by simp only; omega) (by simp only; omega)
  rw [uh HGD,aw_check] at h
  unfold grV grCells at h
  simp only [l1,l2,l3,l4] at h
  exact h)
 go_upto_region 10 with fail
 (try rw [hW9])
 clear hW9
 go_wp2_with fail
 refine (uh CL).mono ?_
 rintro e w10 ⟨⟨lb,rfl,hm⟩,hb⟩
 have M10:=hide hm
 have K10:=hide hb
 have B10:=hide (bl_tr (uh B9) hb)
 have g10:=((uh G9).below hb).cell
 obtain ⟨c1,c2,c3,c4,c5⟩:=uh HCS w10 ((uh H9).trans (Hold.below hb))
 clear hm hb g9
 go_wp2_with fail
 refine (uh CK _ (uh K10)).mono ?_
 rintro e w11 ⟨rfl,hb⟩
 have B11:=hide (bl_tr (uh B10) hb)
 have d0:w11.cell? ⟨lb,0,none⟩ = some (.bool true):=((uh M10).below hb).at (m:=0) (by decide)
 have d1:w11.cell? ⟨lb,1,none⟩ = some (.bool true):=((uh M10).below hb).at (m:=1) (by decide)
 clear hb g10 c1 c2 c3 c4 c5
 go_wp2_with fail
 go_ret
 exact ⟨rfl,uh B11⟩
end Go.Proofs.YtbmmcbagdomonaaGreat
