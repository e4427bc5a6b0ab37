import Derived.Test.YtnmciappielkcaaV33
import Derived.Test.YtnmciappielkcaaV35
set_option maxRecDepth 100000
set_option maxHeartbeats 8000000
namespace Go.Proofs.Ytnmciappielkcaa
open Go.RowKit
set_option linter.unusedVariables false
set_option linter.unusedSimpArgs false
theorem ls_box8 {w:World} {b:Nat} {cs:Array Value} {l:List Str} {t:TypeId} (h:Box w b cs t) (hc:cs = (l.map strV).toArray) (hl:l.length ≤ 9223372036854775807):Ls strV w (some ⟨b,0,none⟩) l.length l:=by
 subst hc
 refine ⟨Nat.le_refl _,hl,fun hp => ⟨b,0,rfl,h.lt,fun i hi => ?_⟩,fun e => by cases e⟩
 rw [h.cell,List.getElem?_toArray,Nat.zero_add,List.getElem?_map,List.getElem?_eq_getElem hi,List.getD_eq_getElem?_getD,List.getElem?_eq_getElem hi]
 rfl
theorem tag_box8 {w:World} {b B n:Nat} {cs:Array Value} {t:TypeId} (h:Box w b cs t):Tag t B w (some ⟨b,0,none⟩) n:=fun _ => ⟨b,0,rfl,h.lt,.inr ⟨cs,h⟩⟩
def trB (n:Int):AtA:=⟨[116,114,97,110,115,66],2,0,n,[],(0,[],[],[],[]),noTA,[],none,0,[],none,0⟩
theorem trB_in {n:Int} (hn:(Lit.int .i64 n).wf = true) (B:Nat) (w:World):AtIn B w (trB n) :=
 ⟨isB_of rfl,rfl,rfl,hn,isB_of rfl,⟨noTen_in w,Tag.nil _ _ _ _,Tag.nil _ _ _ _,Tag.nil _ _ _ _,Tag.nil _ _ _ _⟩,⟨nilInts _ _,Tag.nil _ _ _ _⟩,nilInts _ _,Tag.nil _ _ _ _⟩
theorem trB_ok (n:Int):okT8 (trB n).T:=by simp [okT8,trB]
def gemX (i o a:Nat) (n:Int):NoA:=⟨[71,101,109,109],[],[[97],[98]],some ⟨i,0,none⟩,2,[[121]],some ⟨o,0,none⟩,1,[trB n],some ⟨a,0,none⟩,1⟩
def gemY (i o:Nat):NoA:=⟨[71,101,109,109],[],[[97]],some ⟨i,0,none⟩,1,[[121]],some ⟨o,0,none⟩,1,[],none,0⟩
def fooX:NoA:=⟨[70,111,111],[],[],none,0,[],none,0,[],none,0⟩
theorem gemX_in {i o a:Nat} {n:Int} {w:World} (hn:(Lit.int .i64 n).wf = true) (hi:Box w i #[.string { data:=#[97] },.string { data:=#[98] }] 9) (ho:Box w o #[.string { data:=#[121] }] 9) (ha:Box w a #[.string { data:=#[116,114,97,110,115,66] },.int .i64 2,.int .u32 0,.int .i64 n,.string { data:=#[] },.int .i64 0,.slice none 0 0,.slice none 0 0,.slice none 0 0,.slice none 0 0,.slice none 0 0,.slice none 0 0] 45):NoIn 0 w (gemX i o a n) :=
 ⟨isB_of rfl,isB_of rfl,⟨fun s hs => by simp [gemX] at hs; rcases hs with rfl | rfl <;> exact isB_of rfl,ls_box8 (l:=[[97],[98]]) hi rfl (by decide),tag_box8 hi⟩,⟨fun s hs => by simp [gemX] at hs; subst hs; exact isB_of rfl,ls_box8 (l:=[[121]]) ho rfl (by decide),tag_box8 ho⟩,
  fun x hx => by simp [gemX] at hx; subst hx; exact trB_in hn _ _,rc_box atWd noAtA (l:=[trB n]) ha rfl (by simp),tag_box8 ha⟩
theorem gemY_in {i o:Nat} {w:World} (hi:Box w i #[.string { data:=#[97] }] 9) (ho:Box w o #[.string { data:=#[121] }] 9):NoIn 0 w (gemY i o) :=
 ⟨isB_of rfl,isB_of rfl,⟨fun s hs => by simp [gemY] at hs; subst hs; exact isB_of rfl,ls_box8 (l:=[[97]]) hi rfl (by decide),tag_box8 hi⟩,⟨fun s hs => by simp [gemY] at hs; subst hs; exact isB_of rfl,ls_box8 (l:=[[121]]) ho rfl (by decide),tag_box8 ho⟩,
  fun x hx => by simp [gemY] at hx,Rc.nil _,Tag.nil _ _ _ _⟩
theorem foo_in (w:World):NoIn 0 w fooX :=
 ⟨isB_of rfl,isB_of rfl,⟨fun s hs => by simp [fooX] at hs,Ls.nil _,Tag.nil _ _ _ _⟩,⟨fun s hs => by simp [fooX] at hs,Ls.nil _,Tag.nil _ _ _ _⟩,fun x hx => by simp [fooX] at hx,Rc.nil _,Tag.nil _ _ _ _⟩
theorem SeV.ones {B:Nat} {w:World} {cs:Array Value} {D:SeD} (h:SeV B w cs D):cs.size = 36 ∧ Ones cs:=⟨h.1,SeIn.ones h⟩
theorem cgem1_8 {i o a:Nat} {w:World} (hi:Box w i #[.string { data:=#[97] },.string { data:=#[98] }] 9) (ho:Box w o #[.string { data:=#[121] }] 9) (ha:Box w a #[.string { data:=#[116,114,97,110,115,66] },.int .i64 2,.int .u32 0,.int .i64 1,.string { data:=#[] },.int .i64 0,.slice none 0 0,.slice none 0 0,.slice none 0 0,.slice none 0 0,.slice none 0 0,.slice none 0 0] 45) :
  Calls Try.prog 5 #[.agg #[.string { data:=#[71,101,109,109] },.string { data:=#[] },.slice (some ⟨i,0,none⟩) 2 2,.slice (some ⟨o,0,none⟩) 1 1,.slice (some ⟨a,0,none⟩) 1 1]] w fun e w' => ∃ cs,e = .returned (.tuple #[.int .i64 74,.agg cs,.int .i64 0]) ∧ (cs.size = 36 ∧ Ones cs) ∧ (cs[9]? = some (.int .u32 1065353216) ∧ cs[17]? = some (.bool false) ∧ cs[18]? = some (.bool true)) ∧ Below w.heap.size w w':=by
 have C:=cresolve8_any (gemX i o a 1) 0 w (gemX_in rfl hi ho ha) (fun x hx => by simp [gemX] at hx; subst hx; exact trB_ok _)
 refine Calls.mono C ?_
 rintro e v ⟨cs,rfl,hs,hb⟩
 have e1:(resV (gemX i o a 1).d).1 = 74:=by kernel_rfl
 have e2:(resV (gemX i o a 1).d).2.2 = 0:=by kernel_rfl
 have e3:((resV (gemX i o a 1).d).2.1 9).x = 1065353216:=by kernel_rfl
 have e4:((resV (gemX i o a 1).d).2.1 17).y = false:=by kernel_rfl
 have e5:((resV (gemX i o a 1).d).2.1 18).y = true:=by kernel_rfl
 obtain ⟨D,hD⟩:∃ D,(resV (gemX i o a 1).d).2.1 = D:=⟨_,rfl⟩
 rw [hD] at e3 e4 e5 hs
 clear hD
 have h9:=(hs.2 9 (by omega)).1.k1 (hs.2 9 (by omega)).2
 have h17:=(hs.2 17 (by omega)).1.k2 (hs.2 17 (by omega)).2
 have h18:=(hs.2 18 (by omega)).1.k2 (hs.2 18 (by omega)).2
 rw [e3] at h9
 rw [e4] at h17
 rw [e5] at h18
 rw [e1,e2]
 exact ⟨cs,rfl,hs.ones,⟨h9,h17,h18⟩,hb⟩
theorem cgem2_8 {i o a:Nat} {w:World} (hi:Box w i #[.string { data:=#[97] },.string { data:=#[98] }] 9) (ho:Box w o #[.string { data:=#[121] }] 9) (ha:Box w a #[.string { data:=#[116,114,97,110,115,66] },.int .i64 2,.int .u32 0,.int .i64 2,.string { data:=#[] },.int .i64 0,.slice none 0 0,.slice none 0 0,.slice none 0 0,.slice none 0 0,.slice none 0 0,.slice none 0 0] 45) :
  Calls Try.prog 5 #[.agg #[.string { data:=#[71,101,109,109] },.string { data:=#[] },.slice (some ⟨i,0,none⟩) 2 2,.slice (some ⟨o,0,none⟩) 1 1,.slice (some ⟨a,0,none⟩) 1 1]] w fun e w' => ∃ cs,e = .returned (.tuple #[.int .i64 0,.agg cs,.int .i64 14]) ∧ (cs.size = 36 ∧ Ones cs) ∧ Below w.heap.size w w':=by
 have C:=cresolve8_any (gemX i o a 2) 0 w (gemX_in rfl hi ho ha) (fun x hx => by simp [gemX] at hx; subst hx; exact trB_ok _)
 refine Calls.mono C ?_
 rintro e v ⟨cs,rfl,hs,hb⟩
 rw [show (resV (gemX i o a 2).d).1 = 0 by kernel_rfl,show (resV (gemX i o a 2).d).2.2 = 14 by kernel_rfl]
 exact ⟨cs,rfl,hs.ones,hb⟩
theorem cgem3_8 {i o:Nat} {w:World} (hi:Box w i #[.string { data:=#[97] }] 9) (ho:Box w o #[.string { data:=#[121] }] 9) :
  Calls Try.prog 5 #[.agg #[.string { data:=#[71,101,109,109] },.string { data:=#[] },.slice (some ⟨i,0,none⟩) 1 1,.slice (some ⟨o,0,none⟩) 1 1,.slice none 0 0]] w fun e w' => ∃ cs,e = .returned (.tuple #[.int .i64 0,.agg cs,.int .i64 1]) ∧ (cs.size = 36 ∧ Ones cs) ∧ Below w.heap.size w w':=by
 have C:=cresolve8_any (gemY i o) 0 w (gemY_in hi ho) (fun x hx => by simp [gemY] at hx)
 refine Calls.mono C ?_
 rintro e v ⟨cs,rfl,hs,hb⟩
 rw [show (resV (gemY i o).d).1 = 0 by kernel_rfl,show (resV (gemY i o).d).2.2 = 1 by kernel_rfl]
 exact ⟨cs,rfl,hs.ones,hb⟩
theorem cfoo_8 (w:World) :
  Calls Try.prog 5 #[.agg #[.string { data:=#[70,111,111] },.string { data:=#[] },.slice none 0 0,.slice none 0 0,.slice none 0 0]] w fun e w' => ∃ cs,e = .returned (.tuple #[.int .i64 0,.agg cs,.int .i64 7]) ∧ (cs.size = 36 ∧ Ones cs) ∧ Below w.heap.size w w':=by
 have C:=cresolve8_any fooX 0 w (foo_in w) (fun x hx => by simp [fooX] at hx)
 refine Calls.mono C ?_
 rintro e v ⟨cs,rfl,hs,hb⟩
 rw [show (resV fooX.d).1 = 0 by kernel_rfl,show (resV fooX.d).2.2 = 7 by kernel_rfl]
 exact ⟨cs,rfl,hs.ones,hb⟩
theorem carity48_8 (w:World):Calls Try.prog 8 #[.int .i64 48] w fun e w' => e = .returned (.tuple #[.int .i64 1,.int .i64 2,.int .i64 1,.int .i64 64]) ∧ Below w.heap.size w w':=carity8_any 48 w
theorem cattrs32_8 (w:World):Calls Try.prog 9 #[.int .i64 32] w fun e w' => ∃ b o c,e = .returned (.slice (some ⟨b,o,none⟩) 1 c) ∧ b < w'.heap.size ∧ w'.cell? ⟨b,o,none⟩ = some (.string { data:=#[102,109,111,100] }) ∧ Below w.heap.size w w':=by
 refine Calls.mono (cattrs8_any 32 w) ?_
 rintro e v ⟨u,rfl,ho⟩
 have e1:((rowT 32).2.2.2.2.2.map fun a => a.1) = [[102,109,111,100]]:=by kernel_rfl
 rw [e1] at ho
 obtain ⟨p,c,rfl,hr,_⟩:=ho.form (z:=[]) strWd8
 obtain ⟨b,o,rfl,hb,hc⟩:=hr.lies (by decide)
 exact ⟨b,o,c,rfl,hb,hc 0 (by decide) 0 _ rfl,ho.2⟩
theorem cnconv_8 (w:World):Calls Try.prog 10 #[.string { data:=#[67,111,110,118] }] w fun e w' => e = .returned (.int .i64 75) ∧ Below w.heap.size w w':=by
 have h:=cnumber8_any [67,111,110,118] w (isB_of rfl)
 rw [show numT [67,111,110,118] = 75 by kernel_rfl] at h
 exact h
theorem cncon2_8 (w:World):Calls Try.prog 10 #[.string { data:=#[99,111,110,118] }] w fun e w' => e = .returned (.int .i64 0) ∧ Below w.heap.size w w':=by
 have h:=cnumber8_any [99,111,110,118] w (isB_of rfl)
 rw [show numT [99,111,110,118] = 0 by kernel_rfl] at h
 exact h
theorem cname80_8 (w:World):Calls Try.prog 11 #[.int .i64 80] w fun e w' => e = .returned (.string { data:=#[76,97,121,101,114,78,111,114,109,97,108,105,122,97,116,105,111,110] }) ∧ Below w.heap.size w w':=cname8_any 80 w
theorem cname81_8 (w:World):Calls Try.prog 11 #[.int .i64 81] w fun e w' => e = .returned (.string { data:=#[] }) ∧ Below w.heap.size w w':=cname8_any 81 w
theorem awake8_any (w:World):Calls Try.prog 4 #[] w fun e w' => e = .returned (.bool true) ∧ Below w.heap.size w w':=by
 go_enter Try.func4,Try.ntmps4
 go_wp2_with fail
 refine (carity48_8 _).mono ?_
 rintro e w1 ⟨rfl,hb1⟩
 have B1:=hide hb1
 clear hb1
 go_wp2_with fail
 refine (cattrs32_8 _).mono ?_
 rintro e w2 ⟨lb,lo,lc,rfl,hl,hc,hb2⟩
 have B2:=hide (bl_tr (uh B1) hb2)
 have CL:Hid (w2.cell? ⟨lb,lo,none⟩ = some (.string { data:=#[102,109,111,100] })):=hide hc
 have HL:=hide hl
 clear hb2 hc hl B1
 obtain ⟨V3,hV3⟩:∃ V,V = (((w2.alloc (.cells #[.string { data:=#[97] },.string { data:=#[98] }] 9)).alloc (.cells #[.string { data:=#[121] }] 9)).alloc (.cells #[.string { data:=#[116,114,97,110,115,66] },.int .i64 2,.int .u32 0,.int .i64 1,.string { data:=#[] },.int .i64 0,.slice none 0 0,.slice none 0 0,.slice none 0 0,.slice none 0 0,.slice none 0 0,.slice none 0 0] 45)):=⟨_,rfl⟩
 have BV3:Hid (Below w2.heap.size w2 V3):=hide (by rw [hV3]; exact bl_tr (bl_tr (al1p _ _) (al1p _ _)) (al1p _ _))
 have Y30:Hid (Box V3 (w2.heap.size) #[.string { data:=#[97] },.string { data:=#[98] }] 9):=hide (by rw [hV3]; have h:=Box.new w2 #[.string { data:=#[97] },.string { data:=#[98] }] 9; exact (h.alloc _).alloc _)
 have Y31:Hid (Box V3 (w2.heap.size + 1) #[.string { data:=#[121] }] 9):=hide (by rw [hV3]; have h:=Box.new (w2.alloc (.cells #[.string { data:=#[97] },.string { data:=#[98] }] 9)) #[.string { data:=#[121] }] 9; simp only [World.size_alloc] at h; exact h.alloc _)
 have Y32:Hid (Box V3 (w2.heap.size + 1 + 1) #[.string { data:=#[116,114,97,110,115,66] },.int .i64 2,.int .u32 0,.int .i64 1,.string { data:=#[] },.int .i64 0,.slice none 0 0,.slice none 0 0,.slice none 0 0,.slice none 0 0,.slice none 0 0,.slice none 0 0] 45):=hide (by rw [hV3]; have h:=Box.new ((w2.alloc (.cells #[.string { data:=#[97] },.string { data:=#[98] }] 9)).alloc (.cells #[.string { data:=#[121] }] 9)) #[.string { data:=#[116,114,97,110,115,66] },.int .i64 2,.int .u32 0,.int .i64 1,.string { data:=#[] },.int .i64 0,.slice none 0 0,.slice none 0 0,.slice none 0 0,.slice none 0 0,.slice none 0 0,.slice none 0 0] 45; simp only [World.size_alloc] at h; exact h)
 have CR3:=hide (cgem1_8 (uh Y30) (uh Y31) (uh Y32))
 go_wp2_with fail
 rw [← hV3]
 clear hV3
 refine (uh CR3).mono ?_
 rintro e u3 ⟨cs3,rfl,hc3,hq,hb3⟩
 have BU3:=hide (bl_tr (uh BV3) hb3)
 have HC3:=hide hc3
 clear CR3 hb3 hc3 BV3 Y30 Y31 Y32
 have HQ:=hide hq
 clear hq
 go_wp2_with (refine wpList_store8 rfl _ _ rfl rfl rfl (Box.new _ _ _) (uh HC3).1 rfl (uh HC3).2 ?_; intro w3 b3 s3 z3; have G3:=hide b3; have BW3:Hid (Below w2.heap.size w2 w3):=hide (bl_tr (uh BU3) (bl_tr7 (al1p _ _) s3.1)); clear b3 s3 z3)
 obtain ⟨V4,hV4⟩:∃ V,V = (((w3.alloc (.cells #[.string { data:=#[97] },.string { data:=#[98] }] 9)).alloc (.cells #[.string { data:=#[121] }] 9)).alloc (.cells #[.string { data:=#[116,114,97,110,115,66] },.int .i64 2,.int .u32 0,.int .i64 2,.string { data:=#[] },.int .i64 0,.slice none 0 0,.slice none 0 0,.slice none 0 0,.slice none 0 0,.slice none 0 0,.slice none 0 0] 45)):=⟨_,rfl⟩
 have BV4:Hid (Below w3.heap.size w3 V4):=hide (by rw [hV4]; exact bl_tr (bl_tr (al1p _ _) (al1p _ _)) (al1p _ _))
 have Y40:Hid (Box V4 (w3.heap.size) #[.string { data:=#[97] },.string { data:=#[98] }] 9):=hide (by rw [hV4]; have h:=Box.new w3 #[.string { data:=#[97] },.string { data:=#[98] }] 9; exact (h.alloc _).alloc _)
 have Y41:Hid (Box V4 (w3.heap.size + 1) #[.string { data:=#[121] }] 9):=hide (by rw [hV4]; have h:=Box.new (w3.alloc (.cells #[.string { data:=#[97] },.string { data:=#[98] }] 9)) #[.string { data:=#[121] }] 9; simp only [World.size_alloc] at h; exact h.alloc _)
 have Y42:Hid (Box V4 (w3.heap.size + 1 + 1) #[.string { data:=#[116,114,97,110,115,66] },.int .i64 2,.int .u32 0,.int .i64 2,.string { data:=#[] },.int .i64 0,.slice none 0 0,.slice none 0 0,.slice none 0 0,.slice none 0 0,.slice none 0 0,.slice none 0 0] 45):=hide (by rw [hV4]; have h:=Box.new ((w3.alloc (.cells #[.string { data:=#[97] },.string { data:=#[98] }] 9)).alloc (.cells #[.string { data:=#[121] }] 9)) #[.string { data:=#[116,114,97,110,115,66] },.int .i64 2,.int .u32 0,.int .i64 2,.string { data:=#[] },.int .i64 0,.slice none 0 0,.slice none 0 0,.slice none 0 0,.slice none 0 0,.slice none 0 0,.slice none 0 0] 45; simp only [World.size_alloc] at h; exact h)
 have CR4:=hide (cgem2_8 (uh Y40) (uh Y41) (uh Y42))
 rw [← hV4]
 clear hV4
 refine (uh CR4).mono ?_
 rintro e u4 ⟨cs4,rfl,hc4,hb4⟩
 have BU4:=hide (bl_tr (uh BV4) hb4)
 have HC4:=hide hc4
 clear CR4 hb4 hc4 BV4 Y40 Y41 Y42
 go_wp2_with (refine wpList_store8 rfl _ _ rfl rfl rfl (Box.new _ _ _) (uh HC4).1 rfl (uh HC4).2 ?_; intro w4 b4 s4 z4; have G4:=hide b4; have BW4:Hid (Below w3.heap.size w3 w4):=hide (bl_tr (uh BU4) (bl_tr7 (al1p _ _) s4.1)); clear b4 s4 z4)
 obtain ⟨V5,hV5⟩:∃ V,V = ((w4.alloc (.cells #[.string { data:=#[97] }] 9)).alloc (.cells #[.string { data:=#[121] }] 9)):=⟨_,rfl⟩
 have BV5:Hid (Below w4.heap.size w4 V5):=hide (by rw [hV5]; exact bl_tr (al1p _ _) (al1p _ _))
 have Y50:Hid (Box V5 (w4.heap.size) #[.string { data:=#[97] }] 9):=hide (by rw [hV5]; have h:=Box.new w4 #[.string { data:=#[97] }] 9; exact h.alloc _)
 have Y51:Hid (Box V5 (w4.heap.size + 1) #[.string { data:=#[121] }] 9):=hide (by rw [hV5]; have h:=Box.new (w4.alloc (.cells #[.string { data:=#[97] }] 9)) #[.string { data:=#[121] }] 9; simp only [World.size_alloc] at h; exact h)
 have CR5:=hide (cgem3_8 (uh Y50) (uh Y51))
 rw [← hV5]
 clear hV5
 refine (uh CR5).mono ?_
 rintro e u5 ⟨cs5,rfl,hc5,hb5⟩
 have BU5:=hide (bl_tr (uh BV5) hb5)
 have HC5:=hide hc5
 clear CR5 hb5 hc5 BV5 Y50 Y51
 go_wp2_with (refine wpList_store8 rfl _ _ rfl rfl rfl (Box.new _ _ _) (uh HC5).1 rfl (uh HC5).2 ?_; intro w5 b5 s5 z5; have G5:=hide b5; have BW5:Hid (Below w4.heap.size w4 w5):=hide (bl_tr (uh BU5) (bl_tr7 (al1p _ _) s5.1)); clear b5 s5 z5)
 have CR6:=hide (cfoo_8 w5)
 refine (uh CR6).mono ?_
 rintro e u6 ⟨cs6,rfl,hc6,hb6⟩
 have BU6:=hide hb6
 have HC6:=hide hc6
 clear CR6 hb6 hc6
 have BA:=hide (bl_tr (bl_tr (uh BW4) (uh BW5)) (bl_tr (uh BU6) (Below.refl _ _)))
 have ZA:Hid (w5.heap.size ≤ u6.heap.size):=hide (uh BU6).size
 go_wp2_with (refine wpList_store8 rfl _ _ rfl rfl rfl (Box.new _ _ _) (uh HC6).1 rfl (uh HC6).2 ?_; intro w6 b6 s6 z6; have G6:=hide b6; have BW6:Hid (Below w5.heap.size w5 w6):=hide (bl_tr (uh BU6) (bl_tr7 (al1p _ _) s6.1)); clear b6 s6 z6)
 have BZ:Hid (Below w2.heap.size w2 w6):=hide (bl_tr (uh BW3) (bl_tr (uh BW4) (bl_tr (uh BW5) (uh BW6))))
 have B6:Hid (Below w.heap.size w w6):=hide (bl_tr (uh B2) (uh BZ))
 have GG:Hid (Box w6 u3.heap.size cs3 35):=hide ((uh G3).below (bl_tr (uh BW4) (bl_tr (uh BW5) (uh BW6))))
 have CC:Hid (w6.cell? ⟨lb,lo,none⟩ = some (.string { data:=#[102,109,111,100] })):=hide (by rw [(uh BZ).cell (p:=⟨lb,lo,none⟩) (uh HL)]; exact uh CL)
 have LL:Hid (lb < w6.heap.size):=hide (Nat.lt_of_lt_of_le (uh HL) (uh BZ).size)
 clear BZ G3 CL HL BW3 BW4 BW5 BW6 BA ZA BU3 BU4 BU5 BU6 G4 G5 G6 HC4 HC5 HC6 B2
 go_wp2_with fail
 refine (cnconv_8 _).mono ?_
 rintro e w7 ⟨rfl,hb7⟩
 replace B6:=hide (bl_tr (uh B6) hb7)
 replace GG:=hide ((uh GG).below hb7)
 replace CC:=hide ((hb7.cell (p:=⟨lb,lo,none⟩) (uh LL)).trans (uh CC))
 replace LL:=hide (Nat.lt_of_lt_of_le (uh LL) hb7.size)
 clear hb7
 go_wp2_with fail
 refine (cname80_8 _).mono ?_
 rintro e w8 ⟨rfl,hb7⟩
 replace B6:=hide (bl_tr (uh B6) hb7)
 replace GG:=hide ((uh GG).below hb7)
 replace CC:=hide ((hb7.cell (p:=⟨lb,lo,none⟩) (uh LL)).trans (uh CC))
 replace LL:=hide (Nat.lt_of_lt_of_le (uh LL) hb7.size)
 clear hb7
 go_wp2_with fail
 refine (cncon2_8 _).mono ?_
 rintro e w9 ⟨rfl,hb7⟩
 replace B6:=hide (bl_tr (uh B6) hb7)
 replace GG:=hide ((uh GG).below hb7)
 replace CC:=hide ((hb7.cell (p:=⟨lb,lo,none⟩) (uh LL)).trans (uh CC))
 replace LL:=hide (Nat.lt_of_lt_of_le (uh LL) hb7.size)
 clear hb7
 go_wp2_with fail
 refine (cname81_8 _).mono ?_
 rintro e w10 ⟨rfl,hb7⟩
 replace B6:=hide (bl_tr (uh B6) hb7)
 replace GG:=hide ((uh GG).below hb7)
 replace CC:=hide ((hb7.cell (p:=⟨lb,lo,none⟩) (uh LL)).trans (uh CC))
 replace LL:=hide (Nat.lt_of_lt_of_le (uh LL) hb7.size)
 clear hb7
 have q0:=uh CC
 have q1:w10.cell? ⟨u3.heap.size,9,none⟩ = some (.int .u32 1065353216):=((uh GG).cell 9).trans (uh HQ).1
 have q2:w10.cell? ⟨u3.heap.size,17,none⟩ = some (.bool false):=((uh GG).cell 17).trans (uh HQ).2.1
 have q3:w10.cell? ⟨u3.heap.size,18,none⟩ = some (.bool true):=((uh GG).cell 18).trans (uh HQ).2.2
 have q4:=(uh GG).lt
 have q5:=uh LL
 clear GG CC LL HQ HC3
 go_wp2_with fail
 go_ret
 exact ⟨rfl,uh B6⟩
abbrev RrD:=Str × Str × Bool
def rrCells (a:RrD):List Value:=[strV a.1,strV a.2.1,.bool a.2.2]
theorem rrWd:Wd 3 rrCells:=⟨by decide,fun _ => rfl,fun a u hu => by simp [rrCells] at hu; rcases hu with rfl | rfl | rfl <;> rfl⟩
def rowsL:List (List RrD):=[[],[],[],[],[],[],[],[],[],[],[],[],[],[],[],[],[([97,108,112,104,97],[102,108,111,97,116],false)],[([97,108,112,104,97],[102,108,111,97,116],false)],[([97,108,112,104,97],[102,108,111,97,116],false),([98,101,116,97],[102,108,111,97,116],false)],[],[],[],[],[],[],[],[([100,101,116,101,99,116,95,110,101,103,97,116,105,118,101],[102,108,97,103],false),([100,101,116,101,99,116,95,112,111,115,105,116,105,118,101],[102,108,97,103],false)],[],[],[],[],[([102,109,111,100],[102,108,97,103],false)],[],[],[],[],[],[],[],[],[],[],[],[([116,111],[116,121,112,101],true)],[([112,101,114,109],[112,108,97,99,101,115],false)],[([97,108,108,111,119,122,101,114,111],[102,108,97,103],false)],[([97,120,105,115],[97,120,105,115],true)],[([97,120,105,115],[97,120,105,115],false)],[],[([97,120,105,115],[97,120,105,115],false)],[([97,120,105,115],[97,120,105,115],false)],[([97,120,105,115],[97,120,105,115],false),([114,101,100,117,99,116,105,111,110],[116,101,120,116],false)],[([109,111,100,101],[116,101,120,116],false)],[],[],[],[],[([97,120,105,115],[97,120,105,115],false)],[([101,110,100],[105,110,116],false),([115,116,97,114,116],[105,110,116],false)],[],[([118,97,108,117,101],[116,101,110,115,111,114],false),([118,97,108,117,101,95,102,108,111,97,116],[102,108,111,97,116],false),([118,97,108,117,101,95,102,108,111,97,116,115],[102,108,111,97,116,115],false),([118,97,108,117,101,95,105,110,116],[105,110,116],false),([118,97,108,117,101,95,105,110,116,115],[105,110,116,115],false)],[([118,97,108,117,101],[115,105,110,103,108,101],false)],[([98,108,111,99,107,115,105,122,101],[115,105,122,101],true),([109,111,100,101],[116,101,120,116],false)],[([98,108,111,99,107,115,105,122,101],[115,105,122,101],true)],[([107,101,101,112,100,105,109,115],[102,108,97,103],false),([110,111,111,112,95,119,105,116,104,95,101,109,112,116,121,95,97,120,101,115],[102,108,97,103],false)],[([97,120,101,115],[97,120,101,115],false),([107,101,101,112,100,105,109,115],[102,108,97,103],false)],[([97,120,101,115],[97,120,101,115],false),([107,101,101,112,100,105,109,115],[102,108,97,103],false)],[([97,120,101,115],[97,120,101,115],false),([107,101,101,112,100,105,109,115],[102,108,97,103],false)],[([97,120,101,115],[97,120,101,115],false),([107,101,101,112,100,105,109,115],[102,108,97,103],false)],[([97,120,105,115],[97,120,105,115],false),([107,101,101,112,100,105,109,115],[102,108,97,103],false),([115,101,108,101,99,116,95,108,97,115,116,95,105,110,100,101,120],[102,108,97,103],false)],[([97,120,105,115],[97,120,105,115],false),([107,101,101,112,100,105,109,115],[102,108,97,103],false),([115,101,108,101,99,116,95,108,97,115,116,95,105,110,100,101,120],[102,108,97,103],false)],[([97,120,105,115],[97,120,105,115],false)],[],[([97,108,112,104,97],[102,108,111,97,116],false),([98,101,116,97],[102,108,111,97,116],false),([116,114,97,110,115,65],[102,108,97,103],false),([116,114,97,110,115,66],[102,108,97,103],false)],[([97,117,116,111,95,112,97,100],[116,101,120,116],false),([100,105,108,97,116,105,111,110,115],[115,105,122,101,115],false),([103,114,111,117,112],[115,105,122,101],false),([107,101,114,110,101,108,95,115,104,97,112,101],[115,105,122,101,115],false),([112,97,100,115],[112,97,100,115],false),([115,116,114,105,100,101,115],[115,105,122,101,115],false)],[([97,117,116,111,95,112,97,100],[116,101,120,116],false),([99,101,105,108,95,109,111,100,101],[102,108,97,103],false),([100,105,108,97,116,105,111,110,115],[115,105,122,101,115],false),([107,101,114,110,101,108,95,115,104,97,112,101],[115,105,122,101,115],true),([112,97,100,115],[112,97,100,115],false),([115,116,114,105,100,101,115],[115,105,122,101,115],false)],[([97,117,116,111,95,112,97,100],[116,101,120,116],false),([99,101,105,108,95,109,111,100,101],[102,108,97,103],false),([99,111,117,110,116,95,105,110,99,108,117,100,101,95,112,97,100],[102,108,97,103],false),([107,101,114,110,101,108,95,115,104,97,112,101],[115,105,122,101,115],true),([112,97,100,115],[112,97,100,115],false),([115,116,114,105,100,101,115],[115,105,122,101,115],false)],[],[([101,112,115,105,108,111,110],[102,108,111,97,116],false),([109,111,109,101,110,116,117,109],[102,108,111,97,116],false),([116,114,97,105,110,105,110,103,95,109,111,100,101],[122,101,114,111],false)],[([97,120,105,115],[97,120,105,115],false),([101,112,115,105,108,111,110],[102,108,111,97,116],false),([115,116,97,115,104,95,116,121,112,101],[111,110,101],false)]]
def rowsR (op:Int):List RrD:=if 1 ≤ op ∧ op ≤ 80 then rowsL.getD (op - 1).toNat [] else []
theorem map_at8 {α β:Type} {f g:α → β} {l:List α} (h:l.map f = l.map g) {x:α} (hx:x ∈ l):f x = g x:=List.map_inj_left.1 h x hx
def rowsW (w:World) (l:List RrD):Value × World:=match l with
 | [] => (.slice none 0 0,w)
 | _ => (.slice (some ⟨w.heap.size,0,none⟩) l.length l.length,w.alloc (.cells (l.flatMap rrCells).toArray 61))
theorem names_run (w:World):runF Try.prog 34 #[] w = some (true,.ok (.slice (some ⟨w.heap.size,0,none⟩) 80 80) (w.alloc (.cells ((tabT.map fun r => r.1).map strV).toArray 9)),w.alloc (.cells ((tabT.map fun r => r.1).map strV).toArray 9)):=by
 kernel_rfl
theorem arity_run0 (w:World):∀ n:Nat,n < 10 → runF Try.prog 35 #[.int .i64 (((0 + n:Nat):Int) + 1)] w = some (true,.ok (.tuple #[.int .i64 (rowT (((0 + n:Nat):Int) + 1)).2.1,.int .i64 (rowT (((0 + n:Nat):Int) + 1)).2.2.1,.int .i64 (rowT (((0 + n:Nat):Int) + 1)).2.2.2.1,.int .i64 (rowT (((0 + n:Nat):Int) + 1)).2.2.2.2.1]) w,w)
 | 0,_ => by kernel_rfl
 | 1,_ => by kernel_rfl
 | 2,_ => by kernel_rfl
 | 3,_ => by kernel_rfl
 | 4,_ => by kernel_rfl
 | 5,_ => by kernel_rfl
 | 6,_ => by kernel_rfl
 | 7,_ => by kernel_rfl
 | 8,_ => by kernel_rfl
 | 9,_ => by kernel_rfl
 | n + 10,h => absurd h (by omega)
theorem arity_run1 (w:World):∀ n:Nat,n < 10 → runF Try.prog 35 #[.int .i64 (((10 + n:Nat):Int) + 1)] w = some (true,.ok (.tuple #[.int .i64 (rowT (((10 + n:Nat):Int) + 1)).2.1,.int .i64 (rowT (((10 + n:Nat):Int) + 1)).2.2.1,.int .i64 (rowT (((10 + n:Nat):Int) + 1)).2.2.2.1,.int .i64 (rowT (((10 + n:Nat):Int) + 1)).2.2.2.2.1]) w,w)
 | 0,_ => by kernel_rfl
 | 1,_ => by kernel_rfl
 | 2,_ => by kernel_rfl
 | 3,_ => by kernel_rfl
 | 4,_ => by kernel_rfl
 | 5,_ => by kernel_rfl
 | 6,_ => by kernel_rfl
 | 7,_ => by kernel_rfl
 | 8,_ => by kernel_rfl
 | 9,_ => by kernel_rfl
 | n + 10,h => absurd h (by omega)
theorem arity_run2 (w:World):∀ n:Nat,n < 10 → runF Try.prog 35 #[.int .i64 (((20 + n:Nat):Int) + 1)] w = some (true,.ok (.tuple #[.int .i64 (rowT (((20 + n:Nat):Int) + 1)).2.1,.int .i64 (rowT (((20 + n:Nat):Int) + 1)).2.2.1,.int .i64 (rowT (((20 + n:Nat):Int) + 1)).2.2.2.1,.int .i64 (rowT (((20 + n:Nat):Int) + 1)).2.2.2.2.1]) w,w)
 | 0,_ => by kernel_rfl
 | 1,_ => by kernel_rfl
 | 2,_ => by kernel_rfl
 | 3,_ => by kernel_rfl
 | 4,_ => by kernel_rfl
 | 5,_ => by kernel_rfl
 | 6,_ => by kernel_rfl
 | 7,_ => by kernel_rfl
 | 8,_ => by kernel_rfl
 | 9,_ => by kernel_rfl
 | n + 10,h => absurd h (by omega)
theorem arity_run3 (w:World):∀ n:Nat,n < 10 → runF Try.prog 35 #[.int .i64 (((30 + n:Nat):Int) + 1)] w = some (true,.ok (.tuple #[.int .i64 (rowT (((30 + n:Nat):Int) + 1)).2.1,.int .i64 (rowT (((30 + n:Nat):Int) + 1)).2.2.1,.int .i64 (rowT (((30 + n:Nat):Int) + 1)).2.2.2.1,.int .i64 (rowT (((30 + n:Nat):Int) + 1)).2.2.2.2.1]) w,w)
 | 0,_ => by kernel_rfl
 | 1,_ => by kernel_rfl
 | 2,_ => by kernel_rfl
 | 3,_ => by kernel_rfl
 | 4,_ => by kernel_rfl
 | 5,_ => by kernel_rfl
 | 6,_ => by kernel_rfl
 | 7,_ => by kernel_rfl
 | 8,_ => by kernel_rfl
 | 9,_ => by kernel_rfl
 | n + 10,h => absurd h (by omega)
theorem arity_run4 (w:World):∀ n:Nat,n < 10 → runF Try.prog 35 #[.int .i64 (((40 + n:Nat):Int) + 1)] w = some (true,.ok (.tuple #[.int .i64 (rowT (((40 + n:Nat):Int) + 1)).2.1,.int .i64 (rowT (((40 + n:Nat):Int) + 1)).2.2.1,.int .i64 (rowT (((40 + n:Nat):Int) + 1)).2.2.2.1,.int .i64 (rowT (((40 + n:Nat):Int) + 1)).2.2.2.2.1]) w,w)
 | 0,_ => by kernel_rfl
 | 1,_ => by kernel_rfl
 | 2,_ => by kernel_rfl
 | 3,_ => by kernel_rfl
 | 4,_ => by kernel_rfl
 | 5,_ => by kernel_rfl
 | 6,_ => by kernel_rfl
 | 7,_ => by kernel_rfl
 | 8,_ => by kernel_rfl
 | 9,_ => by kernel_rfl
 | n + 10,h => absurd h (by omega)
theorem arity_run5 (w:World):∀ n:Nat,n < 10 → runF Try.prog 35 #[.int .i64 (((50 + n:Nat):Int) + 1)] w = some (true,.ok (.tuple #[.int .i64 (rowT (((50 + n:Nat):Int) + 1)).2.1,.int .i64 (rowT (((50 + n:Nat):Int) + 1)).2.2.1,.int .i64 (rowT (((50 + n:Nat):Int) + 1)).2.2.2.1,.int .i64 (rowT (((50 + n:Nat):Int) + 1)).2.2.2.2.1]) w,w)
 | 0,_ => by kernel_rfl
 | 1,_ => by kernel_rfl
 | 2,_ => by kernel_rfl
 | 3,_ => by kernel_rfl
 | 4,_ => by kernel_rfl
 | 5,_ => by kernel_rfl
 | 6,_ => by kernel_rfl
 | 7,_ => by kernel_rfl
 | 8,_ => by kernel_rfl
 | 9,_ => by kernel_rfl
 | n + 10,h => absurd h (by omega)
theorem arity_run6 (w:World):∀ n:Nat,n < 10 → runF Try.prog 35 #[.int .i64 (((60 + n:Nat):Int) + 1)] w = some (true,.ok (.tuple #[.int .i64 (rowT (((60 + n:Nat):Int) + 1)).2.1,.int .i64 (rowT (((60 + n:Nat):Int) + 1)).2.2.1,.int .i64 (rowT (((60 + n:Nat):Int) + 1)).2.2.2.1,.int .i64 (rowT (((60 + n:Nat):Int) + 1)).2.2.2.2.1]) w,w)
 | 0,_ => by kernel_rfl
 | 1,_ => by kernel_rfl
 | 2,_ => by kernel_rfl
 | 3,_ => by kernel_rfl
 | 4,_ => by kernel_rfl
 | 5,_ => by kernel_rfl
 | 6,_ => by kernel_rfl
 | 7,_ => by kernel_rfl
 | 8,_ => by kernel_rfl
 | 9,_ => by kernel_rfl
 | n + 10,h => absurd h (by omega)
theorem arity_run7 (w:World):∀ n:Nat,n < 10 → runF Try.prog 35 #[.int .i64 (((70 + n:Nat):Int) + 1)] w = some (true,.ok (.tuple #[.int .i64 (rowT (((70 + n:Nat):Int) + 1)).2.1,.int .i64 (rowT (((70 + n:Nat):Int) + 1)).2.2.1,.int .i64 (rowT (((70 + n:Nat):Int) + 1)).2.2.2.1,.int .i64 (rowT (((70 + n:Nat):Int) + 1)).2.2.2.2.1]) w,w)
 | 0,_ => by kernel_rfl
 | 1,_ => by kernel_rfl
 | 2,_ => by kernel_rfl
 | 3,_ => by kernel_rfl
 | 4,_ => by kernel_rfl
 | 5,_ => by kernel_rfl
 | 6,_ => by kernel_rfl
 | 7,_ => by kernel_rfl
 | 8,_ => by kernel_rfl
 | 9,_ => by kernel_rfl
 | n + 10,h => absurd h (by omega)
theorem arity_run (w:World) (n:Nat) (h:n < 80):runF Try.prog 35 #[.int .i64 ((n:Int) + 1)] w = some (true,.ok (.tuple #[.int .i64 (rowT ((n:Int) + 1)).2.1,.int .i64 (rowT ((n:Int) + 1)).2.2.1,.int .i64 (rowT ((n:Int) + 1)).2.2.2.1,.int .i64 (rowT ((n:Int) + 1)).2.2.2.2.1]) w,w):=by
 obtain ⟨q,m,hm,hq,rfl⟩:∃ q m,m < 10 ∧ q < 8 ∧ n = q * 10 + m:=⟨n / 10,n % 10,Nat.mod_lt _ (by decide),by omega,by omega⟩
 match q,hq with
 | 0,_ => exact arity_run0 w m hm
 | 1,_ => exact arity_run1 w m hm
 | 2,_ => exact arity_run2 w m hm
 | 3,_ => exact arity_run3 w m hm
 | 4,_ => exact arity_run4 w m hm
 | 5,_ => exact arity_run5 w m hm
 | 6,_ => exact arity_run6 w m hm
 | 7,_ => exact arity_run7 w m hm
 | q + 8,h => exact absurd h (by omega)
theorem rows_run0 (w:World):∀ n:Nat,n < 10 → runF Try.prog 17 #[.int .i64 (((0 + n:Nat):Int) + 1)] w = some (true,.ok (rowsW w (rowsR (((0 + n:Nat):Int) + 1))).1 (rowsW w (rowsR (((0 + n:Nat):Int) + 1))).2,(rowsW w (rowsR (((0 + n:Nat):Int) + 1))).2)
 | 0,_ => by kernel_rfl
 | 1,_ => by kernel_rfl
 | 2,_ => by kernel_rfl
 | 3,_ => by kernel_rfl
 | 4,_ => by kernel_rfl
 | 5,_ => by kernel_rfl
 | 6,_ => by kernel_rfl
 | 7,_ => by kernel_rfl
 | 8,_ => by kernel_rfl
 | 9,_ => by kernel_rfl
 | n + 10,h => absurd h (by omega)
theorem rows_run1 (w:World):∀ n:Nat,n < 10 → runF Try.prog 17 #[.int .i64 (((10 + n:Nat):Int) + 1)] w = some (true,.ok (rowsW w (rowsR (((10 + n:Nat):Int) + 1))).1 (rowsW w (rowsR (((10 + n:Nat):Int) + 1))).2,(rowsW w (rowsR (((10 + n:Nat):Int) + 1))).2)
 | 0,_ => by kernel_rfl
 | 1,_ => by kernel_rfl
 | 2,_ => by kernel_rfl
 | 3,_ => by kernel_rfl
 | 4,_ => by kernel_rfl
 | 5,_ => by kernel_rfl
 | 6,_ => by kernel_rfl
 | 7,_ => by kernel_rfl
 | 8,_ => by kernel_rfl
 | 9,_ => by kernel_rfl
 | n + 10,h => absurd h (by omega)
theorem rows_run2 (w:World):∀ n:Nat,n < 10 → runF Try.prog 17 #[.int .i64 (((20 + n:Nat):Int) + 1)] w = some (true,.ok (rowsW w (rowsR (((20 + n:Nat):Int) + 1))).1 (rowsW w (rowsR (((20 + n:Nat):Int) + 1))).2,(rowsW w (rowsR (((20 + n:Nat):Int) + 1))).2)
 | 0,_ => by kernel_rfl
 | 1,_ => by kernel_rfl
 | 2,_ => by kernel_rfl
 | 3,_ => by kernel_rfl
 | 4,_ => by kernel_rfl
 | 5,_ => by kernel_rfl
 | 6,_ => by kernel_rfl
 | 7,_ => by kernel_rfl
 | 8,_ => by kernel_rfl
 | 9,_ => by kernel_rfl
 | n + 10,h => absurd h (by omega)
theorem rows_run3 (w:World):∀ n:Nat,n < 10 → runF Try.prog 17 #[.int .i64 (((30 + n:Nat):Int) + 1)] w = some (true,.ok (rowsW w (rowsR (((30 + n:Nat):Int) + 1))).1 (rowsW w (rowsR (((30 + n:Nat):Int) + 1))).2,(rowsW w (rowsR (((30 + n:Nat):Int) + 1))).2)
 | 0,_ => by kernel_rfl
 | 1,_ => by kernel_rfl
 | 2,_ => by kernel_rfl
 | 3,_ => by kernel_rfl
 | 4,_ => by kernel_rfl
 | 5,_ => by kernel_rfl
 | 6,_ => by kernel_rfl
 | 7,_ => by kernel_rfl
 | 8,_ => by kernel_rfl
 | 9,_ => by kernel_rfl
 | n + 10,h => absurd h (by omega)
theorem rows_run4 (w:World):∀ n:Nat,n < 10 → runF Try.prog 17 #[.int .i64 (((40 + n:Nat):Int) + 1)] w = some (true,.ok (rowsW w (rowsR (((40 + n:Nat):Int) + 1))).1 (rowsW w (rowsR (((40 + n:Nat):Int) + 1))).2,(rowsW w (rowsR (((40 + n:Nat):Int) + 1))).2)
 | 0,_ => by kernel_rfl
 | 1,_ => by kernel_rfl
 | 2,_ => by kernel_rfl
 | 3,_ => by kernel_rfl
 | 4,_ => by kernel_rfl
 | 5,_ => by kernel_rfl
 | 6,_ => by kernel_rfl
 | 7,_ => by kernel_rfl
 | 8,_ => by kernel_rfl
 | 9,_ => by kernel_rfl
 | n + 10,h => absurd h (by omega)
theorem rows_run5 (w:World):∀ n:Nat,n < 10 → runF Try.prog 17 #[.int .i64 (((50 + n:Nat):Int) + 1)] w = some (true,.ok (rowsW w (rowsR (((50 + n:Nat):Int) + 1))).1 (rowsW w (rowsR (((50 + n:Nat):Int) + 1))).2,(rowsW w (rowsR (((50 + n:Nat):Int) + 1))).2)
 | 0,_ => by kernel_rfl
 | 1,_ => by kernel_rfl
 | 2,_ => by kernel_rfl
 | 3,_ => by kernel_rfl
 | 4,_ => by kernel_rfl
 | 5,_ => by kernel_rfl
 | 6,_ => by kernel_rfl
 | 7,_ => by kernel_rfl
 | 8,_ => by kernel_rfl
 | 9,_ => by kernel_rfl
 | n + 10,h => absurd h (by omega)
theorem rows_run6 (w:World):∀ n:Nat,n < 10 → runF Try.prog 17 #[.int .i64 (((60 + n:Nat):Int) + 1)] w = some (true,.ok (rowsW w (rowsR (((60 + n:Nat):Int) + 1))).1 (rowsW w (rowsR (((60 + n:Nat):Int) + 1))).2,(rowsW w (rowsR (((60 + n:Nat):Int) + 1))).2)
 | 0,_ => by kernel_rfl
 | 1,_ => by kernel_rfl
 | 2,_ => by kernel_rfl
 | 3,_ => by kernel_rfl
 | 4,_ => by kernel_rfl
 | 5,_ => by kernel_rfl
 | 6,_ => by kernel_rfl
 | 7,_ => by kernel_rfl
 | 8,_ => by kernel_rfl
 | 9,_ => by kernel_rfl
 | n + 10,h => absurd h (by omega)
theorem rows_run7 (w:World):∀ n:Nat,n < 10 → runF Try.prog 17 #[.int .i64 (((70 + n:Nat):Int) + 1)] w = some (true,.ok (rowsW w (rowsR (((70 + n:Nat):Int) + 1))).1 (rowsW w (rowsR (((70 + n:Nat):Int) + 1))).2,(rowsW w (rowsR (((70 + n:Nat):Int) + 1))).2)
 | 0,_ => by kernel_rfl
 | 1,_ => by kernel_rfl
 | 2,_ => by kernel_rfl
 | 3,_ => by kernel_rfl
 | 4,_ => by kernel_rfl
 | 5,_ => by kernel_rfl
 | 6,_ => by kernel_rfl
 | 7,_ => by kernel_rfl
 | 8,_ => by kernel_rfl
 | 9,_ => by kernel_rfl
 | n + 10,h => absurd h (by omega)
theorem rows_run (w:World) (n:Nat) (h:n < 80):runF Try.prog 17 #[.int .i64 ((n:Int) + 1)] w = some (true,.ok (rowsW w (rowsR ((n:Int) + 1))).1 (rowsW w (rowsR ((n:Int) + 1))).2,(rowsW w (rowsR ((n:Int) + 1))).2):=by
 obtain ⟨q,m,hm,hq,rfl⟩:∃ q m,m < 10 ∧ q < 8 ∧ n = q * 10 + m:=⟨n / 10,n % 10,Nat.mod_lt _ (by decide),by omega,by omega⟩
 match q,hq with
 | 0,_ => exact rows_run0 w m hm
 | 1,_ => exact rows_run1 w m hm
 | 2,_ => exact rows_run2 w m hm
 | 3,_ => exact rows_run3 w m hm
 | 4,_ => exact rows_run4 w m hm
 | 5,_ => exact rows_run5 w m hm
 | 6,_ => exact rows_run6 w m hm
 | 7,_ => exact rows_run7 w m hm
 | q + 8,h => exact absurd h (by omega)
theorem rows_names:(List.range 80).map (fun k:Nat => (rowsR ((k:Int) + 1)).map fun r => r.1) = (List.range 80).map (fun k:Nat => (rowT ((k:Int) + 1)).2.2.2.2.2.map fun a => a.1):=by
 kernel_rfl
end Go.Proofs.Ytnmciappielkcaa
