import Derived.Test.YtbmmcbagdomonaaGreatV28
set_option maxRecDepth 100000
set_option maxHeartbeats 40000000
namespace Go.Proofs.YtbmmcbagdomonaaGreat
open Go.RowKit
set_option linter.unusedVariables false
set_option linter.unusedSimpArgs false
def takeV (so:Int) (nm:Str) (kd f i:Int) (s:Str) (T:Ten) (fl is:List Int):Option (List (Nat × FV)) :=
 if holdB (bndT.getD so.toNat (0,0,0,0)) kd i fl.length is = true then
  if so = 0 then some (wrL nm f)
  else if so = 7 then (if knownB i = true then some (wrL nm i) else none)
  else if so ≤ 6 then some (wrL nm i)
  else if so ≤ 11 then (if (modeV so s).2 = true then some (wrL nm (modeV so s).1) else none)
  else if so = 13 then (if T.2.2.1.length + T.2.2.2.1.length + T.2.2.2.2.length = 1 then some [(31,.t T)] else none)
  else if so = 12 then some [(31,.t T)]
  else if so = 14 then some [(31,.t (1,[(fl.length:Int)],fl,[],[]))]
  else if so = 15 then some [(31,.t (7,[(is.length:Int)],[],is,[]))]
  else some (wlL nm is)
 else none
def TkP (B g:Nat) (w w':World) (D:SeD) (r:Option (List (Nat × FV))):Prop:=Stay g w w' ∧ ∀ l,r = some l → SeB B g w' (updL D l)
theorem TkP.no {B g:Nat} {w w':World} {D:SeD} (h:Stay g w w'):TkP B g w w' D none:=⟨h,fun l e => by cases e⟩
theorem TkP.yes {B g:Nat} {w w':World} {D:SeD} {l:List (Nat × FV)} (h:Stay g w w') (hs:SeB B g w' (updL D l)):TkP B g w w' D (some l):=⟨h,fun l' e => by cases e; exact hs⟩
theorem u32_rng8 {f:Int} (h:(Lit.int .u32 f).wf = true):0 ≤ f ∧ f < 4294967296:=by
 simp [Lit.wf,IntKind.min,IntKind.max,IntKind.signed,IntKind.bits] at h
 omega
theorem u32_i64_8 {f:Int} (h:(Lit.int .u32 f).wf = true):(Lit.int .i64 f).wf = true:=by
 have:=u32_rng8 h
 simp [Lit.wf,IntKind.min,IntKind.max,IntKind.signed,IntKind.bits]
 omega
theorem mode_wf8 (s:Int) (x:Str):(Lit.int .i64 (modeV s x).1).wf = true:=by
 unfold modeV
 split
 ·rename_i c hc
  have hm:=List.mem_of_find?_eq_some hc
  unfold choT at hm
  split at hm
  ·simp only [List.mem_cons,List.not_mem_nil,or_false] at hm
   rcases hm with rfl | rfl | rfl <;> rfl
  ·split at hm
   ·simp only [List.mem_cons,List.not_mem_nil,or_false] at hm
    rcases hm with rfl | rfl | rfl <;> rfl
   ·split at hm
    ·simp only [List.mem_cons,List.not_mem_nil,or_false] at hm
     rcases hm with rfl | rfl <;> rfl
    ·split at hm
     ·simp only [List.mem_cons,List.not_mem_nil,or_false] at hm
      rcases hm with rfl | rfl | rfl | rfl <;> rfl
     ·simp at hm
 ·rfl
theorem len_wf8 {n:Nat} (h:n ≤ 9223372036854775807):(Lit.int .i64 (n:Int)).wf = true:=by
 simp [Lit.wf,IntKind.min,IntKind.max,IntKind.signed,IntKind.bits]
 omega
theorem set5_off8 {w:World} {k g:Nat} {cs:Array Value} {t:TypeId} (h:Box w k cs t) (hne:k ≠ g) (u0 u1 u2 u3 u4:Value):Box (((((w.setCell ⟨g,31,none⟩ u0).setCell ⟨g,32,none⟩ u1).setCell ⟨g,33,none⟩ u2).setCell ⟨g,34,none⟩ u3).setCell ⟨g,35,none⟩ u4) k cs t :=
 ((((h.other hne 31 u0).other hne 32 u1).other hne 33 u2).other hne 34 u3).other hne 35 u4
theorem sal5a {w:World} {o:Obj} {g a b c d e:Nat} {v0 v1 v2 v3 v4:Value} (hg:g < w.heap.size):(((((w.alloc o).setCell ⟨g,a,none⟩ v0).setCell ⟨g,b,none⟩ v1).setCell ⟨g,c,none⟩ v2).setCell ⟨g,d,none⟩ v3).setCell ⟨g,e,none⟩ v4 = (((((w.setCell ⟨g,a,none⟩ v0).setCell ⟨g,b,none⟩ v1).setCell ⟨g,c,none⟩ v2).setCell ⟨g,d,none⟩ v3).setCell ⟨g,e,none⟩ v4).alloc o:=by
 rw [World.setCell_alloc_past o g a v0 hg,World.setCell_alloc_past o g b v1 (by rw [size_set8]; exact hg),World.setCell_alloc_past o g c v2 (by rw [size_set8,size_set8]; exact hg),World.setCell_alloc_past o g d v3 (by rw [size_set8,size_set8,size_set8]; exact hg),World.setCell_alloc_past o g e v4 (by rw [size_set8,size_set8,size_set8,size_set8]; exact hg)]
theorem hold6_8 {x y m kd i:Int} {nf:Nat} {is:List Int} (h:holdB (6,x,y,m) kd i nf is = true):(nf:Int) ≤ m:=by
 unfold holdB at h
 by_cases hk:kd = 6
 ·subst hk
  simpa using h
 ·simp [hk] at h
theorem hold7_8 {x y m kd i:Int} {nf:Nat} {is:List Int} (h:holdB (7,x,y,m) kd i nf is = true):(is.length:Int) ≤ m:=by
 unfold holdB at h
 by_cases hk:kd = 7
 ·subst hk
  simp only [if_true,Bool.and_eq_true] at h
  have:=h
  simp at this
  exact this.1
 ·simp [hk] at h
theorem AtIn.below8 {B:Nat} {w w':World} {a:AtA} (h:AtIn B w a) (hb:Below w.heap.size w w'):AtIn B w' a:=h.kept (TS:=tenTS) (fun t ht => ht) (Kept.below hb)
theorem ctake8_any (nm:Str) (so:Nat) (hso:so < 20) (st ne:Int) (a:AtA) (B0 B g:Nat) (D:SeD) (w:World) (h:SeB B g w D) (hn:isB nm) (ha:AtIn B0 w a) (ht:okT8 a.T) (hB:B ≤ w.heap.size) :
  Calls Tryz.prog 141 #[.agg #[strV nm,.int .i64 (so:Int),.int .i64 st,.int .i64 ne],.pointer (some ⟨g,0,none⟩),.agg (atCells a).toArray] w fun e w' => e = .returned (.bool (takeV so nm a.kd a.f a.i a.s a.T a.fl a.is).isSome) ∧ TkP B g w w' D (takeV so nm a.kd a.f a.i a.s a.T a.fl a.is):=by
 obtain ⟨R,hR⟩:∃ r,takeV so nm a.kd a.f a.i a.s a.T a.fl a.is = r:=⟨_,rfl⟩
 have HR:=hide hR
 rw [hR]
 have CH:=hide (fun v (hv:Below w.heap.size w v) => chold8_any (bndT.getD so (0,0,0,0)) a B0 v (ha.below8 hv))
 have CB:=hide (fun v => cbnd8_any so v hso)
 generalize bndV (bndT.getD so (0,0,0,0)) = BV at CH CB
 obtain ⟨D0,hD0⟩:∃ d,holdB (bndT.getD so (0,0,0,0)) a.kd a.i a.fl.length a.is = d:=⟨_,rfl⟩
 rw [hD0] at CH
 have HD0:=hide hD0
 have HA:=hide ha
 have HT:=hide ht
 have HN:=hide hn
 have H:=hide h
 have hg:=h.lt
 clear h hn ha ht hR hD0
 obtain ⟨nm2,kd,f,i,s,⟨t0,t1,t2,t3,t4⟩,⟨pd,cd,pf,cf,pi,ci,pb,cb⟩,fl,qf,cfl,is,qi,cis⟩:=a
 unfold atCells tenCells strV at CH
 unfold atCells tenCells strV
 simp only [List.cons_append,List.nil_append] at CH HR HD0 HT ⊢
 go_enter Tryz.func141,Tryz.ntmps141
 go_wp2_with fail
 obtain ⟨v0,hv0⟩:∃ v0,v0 = ((w.alloc (Obj.cells #[.string (strOfNums nm),.int .i64 (so:Int),.int .i64 st,.int .i64 ne] 180)).alloc (Obj.cells #[.string (strOfNums nm2),.int .i64 kd,.int .u32 f,.int .i64 i,.string (strOfNums s),.int .i64 t0,.slice pd t1.length cd,.slice pf t2.length cf,.slice pi t3.length ci,.slice pb t4.length cb,.slice qf fl.length cfl,.slice qi is.length cis] 121)):=⟨_,rfl⟩
 have X0:Hid (Box v0 w.heap.size #[.string (strOfNums nm),.int .i64 (so:Int),.int .i64 st,.int .i64 ne] 180):=hide (by rw [hv0]; exact Box.alloc (Box.new w _ _) _)
 have Y0:Hid (Box v0 (w.heap.size + 1) #[.string (strOfNums nm2),.int .i64 kd,.int .u32 f,.int .i64 i,.string (strOfNums s),.int .i64 t0,.slice pd t1.length cd,.slice pf t2.length cf,.slice pi t3.length ci,.slice pb t4.length cb,.slice qf fl.length cfl,.slice qi is.length cis] 121):=hide (by rw [hv0]; have:=Box.new (w.alloc (Obj.cells #[.string (strOfNums nm),.int .i64 (so:Int),.int .i64 st,.int .i64 ne] 180)) #[.string (strOfNums nm2),.int .i64 kd,.int .u32 f,.int .i64 i,.string (strOfNums s),.int .i64 t0,.slice pd t1.length cd,.slice pf t2.length cf,.slice pi t3.length ci,.slice pb t4.length cb,.slice qf fl.length cfl,.slice qi is.length cis] 121; simp at this; exact this)
 have B0':Hid (Below w.heap.size w v0):=hide (by rw [hv0]; exact bl_tr (al1p _ _) (al1p _ _))
 rw [← hv0]
 clear hv0
 have x0:=(uh X0).cell
 have x0':=((uh X0).below (bdrew8 _)).cell
 have y0:=(uh Y0).cell
 have y0':=((uh Y0).below (bdrew8 _)).cell
 go_region_held3 (fun w' => (∀ j,w'.cell? ⟨w.heap.size,j,none⟩ = (#[.string (strOfNums nm),.int .i64 (so:Int),.int .i64 st,.int .i64 ne]:Array Value)[j]?) ∧ (∀ j,w'.cell? ⟨w.heap.size + 1,j,none⟩ = (#[.string (strOfNums nm2),.int .i64 kd,.int .u32 f,.int .i64 i,.string (strOfNums s),.int .i64 t0,.slice pd t1.length cd,.slice pf t2.length cf,.slice pi t3.length ci,.slice pb t4.length cb,.slice qf fl.length cfl,.slice qi is.length cis]:Array Value)[j]?)) (refine ⟨?_,?_⟩ <;> with_reducible assumption)
  (first
   | (go_at_call 163; (refine (uh CH _ (uh B1)).mono ?_; rintro e w3 ⟨rfl,hb⟩; have X3:=hide ((uh X1).below hb); have Y3:=hide ((uh Y1).below hb); have B3:=hide (bl_tr (uh B1) hb); clear x1 y1; have x3:=(uh X3).cell; have y3:=(uh Y3).cell; clear hb))
   | (go_at_call 162; (refine (uh CB _).mono ?_; rintro e w1 ⟨rfl,hb⟩; have X1:=hide ((uh X0).below (bl_tr (bdrew8 _) hb)); have Y1:=hide ((uh Y0).below (bl_tr (bdrew8 _) hb)); have B1:=hide (bl_tr (uh B0') (bl_tr (bdrew8 _) hb)); clear x0 x0' y0 y0'; have x1:=(uh X1).cell; have y1:=(uh Y1).cell; clear hb)))
 have xl3:=(uh X3).lt
 have yl3:=(uh Y3).lt
 have SG:=hide ((uh H).stay (uh B3))
 have HG:=hide hg
 have ST:=hide (Stay.below (uh B3) (Nat.le_of_lt hg))
 have HZ:=hide (Nat.le_trans hB (uh B3).size)
 have gl3:=(uh SG).lt
 have HG3:Hid (g + 1 < w3.heap.size):=hide (by have:=(uh Y3).lt; omega)
 obtain ⟨q1,q2,q3,q4,q5,q6,q7,q8,q9⟩:=(uh HA).below8 (uh B3)
 have WF:=hide q3
 have WI:=hide q4
 have HS:=hide q5
 have HTN:=hide q6.1
 have HI:=hide q8
 have HF:=hide q7.1
 have hf:0 ≤ f ∧ f < 4294967296:=u32_rng8 q3
 have hl:=uh HT
 unfold okT8 at hl
 simp only at hl HTN
 clear q1 q2 q3 q4 q5 q6 q7 q8 q9 CH CB HA H hg X0 Y0 B0' X1 Y1 B1 B3
 cases D0
 ·have e0:none = R:=by have:=uh HR; unfold takeV at this; rw [show ((so:Int)).toNat = so from rfl,uh HD0] at this; simpa using this
  subst e0
  clear HR HD0
  go_wp2_with fail
  go_ret
  exact ⟨rfl,TkP.no (uh ST)⟩
 ·have hR:=uh HR
  unfold takeV at hR
  rw [show ((so:Int)).toNat = so from rfl,uh HD0,if_pos rfl] at hR
  clear HR
  have hc:so = 0 ∨ so = 1 ∨ so = 2 ∨ so = 3 ∨ so = 4 ∨ so = 5 ∨ so = 6 ∨ so = 7 ∨ so = 8 ∨ so = 9 ∨ so = 10 ∨ so = 11 ∨ so = 12 ∨ so = 13 ∨ so = 14 ∨ so = 15 ∨ so = 16 ∨ so = 17 ∨ so = 18 ∨ so = 19:=by omega
  rcases hc with rfl | rfl | rfl | rfl | rfl | rfl | rfl | rfl | rfl | rfl | rfl | rfl | rfl | rfl | rfl | rfl | rfl | rfl | rfl | rfl
  ·rw [if_pos (by decide)] at hR
   clear HD0
   subst hR
   obtain ⟨f0,f1⟩:=hf
   have fw:IntKind.i64.wrap f = f:=by rw [IntKind.wrap_i64]; omega
   clear f0 f1
   go_wp2_with fail
   refine (cwrite8_any nm _ st ne f B g D w3 (uh SG) (uh HN) (u32_i64_8 (uh WF)) (uh HZ)).mono ?_
   rintro e w4 ⟨rfl,s4,y4⟩
   have Y4:=hide y4
   have S4:=hide s4
   clear s4 y4
   go_wp2_with fail
   go_ret
   exact ⟨rfl,TkP.yes ((uh ST).trans (uh Y4)) (uh S4)⟩
  ·rw [if_neg (by decide),if_neg (by decide),if_pos (by decide)] at hR
   clear HD0
   subst hR
   clear hf
   go_wp2_with fail
   refine (cwrite8_any nm _ st ne i B g D w3 (uh SG) (uh HN) (uh WI) (uh HZ)).mono ?_
   rintro e w4 ⟨rfl,s4,y4⟩
   have Y4:=hide y4
   have S4:=hide s4
   clear s4 y4
   go_wp2_with fail
   go_ret
   exact ⟨rfl,TkP.yes ((uh ST).trans (uh Y4)) (uh S4)⟩
  ·rw [if_neg (by decide),if_neg (by decide),if_pos (by decide)] at hR
   clear HD0
   subst hR
   clear hf
   go_wp2_with fail
   refine (cwrite8_any nm _ st ne i B g D w3 (uh SG) (uh HN) (uh WI) (uh HZ)).mono ?_
   rintro e w4 ⟨rfl,s4,y4⟩
   have Y4:=hide y4
   have S4:=hide s4
   clear s4 y4
   go_wp2_with fail
   go_ret
   exact ⟨rfl,TkP.yes ((uh ST).trans (uh Y4)) (uh S4)⟩
  ·rw [if_neg (by decide),if_neg (by decide),if_pos (by decide)] at hR
   clear HD0
   subst hR
   clear hf
   go_wp2_with fail
   refine (cwrite8_any nm _ st ne i B g D w3 (uh SG) (uh HN) (uh WI) (uh HZ)).mono ?_
   rintro e w4 ⟨rfl,s4,y4⟩
   have Y4:=hide y4
   have S4:=hide s4
   clear s4 y4
   go_wp2_with fail
   go_ret
   exact ⟨rfl,TkP.yes ((uh ST).trans (uh Y4)) (uh S4)⟩
  ·rw [if_neg (by decide),if_neg (by decide),if_pos (by decide)] at hR
   clear HD0
   subst hR
   clear hf
   go_wp2_with fail
   refine (cwrite8_any nm _ st ne i B g D w3 (uh SG) (uh HN) (uh WI) (uh HZ)).mono ?_
   rintro e w4 ⟨rfl,s4,y4⟩
   have Y4:=hide y4
   have S4:=hide s4
   clear s4 y4
   go_wp2_with fail
   go_ret
   exact ⟨rfl,TkP.yes ((uh ST).trans (uh Y4)) (uh S4)⟩
  ·rw [if_neg (by decide),if_neg (by decide),if_pos (by decide)] at hR
   clear HD0
   subst hR
   clear hf
   go_wp2_with fail
   refine (cwrite8_any nm _ st ne i B g D w3 (uh SG) (uh HN) (uh WI) (uh HZ)).mono ?_
   rintro e w4 ⟨rfl,s4,y4⟩
   have Y4:=hide y4
   have S4:=hide s4
   clear s4 y4
   go_wp2_with fail
   go_ret
   exact ⟨rfl,TkP.yes ((uh ST).trans (uh Y4)) (uh S4)⟩
  ·rw [if_neg (by decide),if_neg (by decide),if_pos (by decide)] at hR
   clear HD0
   subst hR
   clear hf
   go_wp2_with fail
   refine (cwrite8_any nm _ st ne i B g D w3 (uh SG) (uh HN) (uh WI) (uh HZ)).mono ?_
   rintro e w4 ⟨rfl,s4,y4⟩
   have Y4:=hide y4
   have S4:=hide s4
   clear s4 y4
   go_wp2_with fail
   go_ret
   exact ⟨rfl,TkP.yes ((uh ST).trans (uh Y4)) (uh S4)⟩
  ·rw [if_neg (by decide),if_pos (by decide)] at hR
   clear HD0
   clear hf
   cases hK:knownB i
   ·rw [hK,if_neg (by decide)] at hR
    subst hR
    have CT:=hide (cistype_any i)
    rw [hK] at CT
    clear hK
    go_wp2_with fail
    refine (uh CT _).mono ?_
    rintro e v ⟨rfl,hv⟩
    replace hv:=hv.symm
    subst hv
    go_wp2_with fail
    go_ret
    exact ⟨rfl,TkP.no (uh ST)⟩
   ·rw [hK,if_pos rfl] at hR
    subst hR
    have CT:=hide (cistype_any i)
    rw [hK] at CT
    clear hK
    go_wp2_with fail
    refine (uh CT _).mono ?_
    rintro e v ⟨rfl,hv⟩
    replace hv:=hv.symm
    subst hv
    go_wp2_with fail
    refine (cwrite8_any nm _ st ne i B g D w3 (uh SG) (uh HN) (uh WI) (uh HZ)).mono ?_
    rintro e w4 ⟨rfl,s4,y4⟩
    have Y4:=hide y4
    have S4:=hide s4
    clear s4 y4
    go_wp2_with fail
    go_ret
    exact ⟨rfl,TkP.yes ((uh ST).trans (uh Y4)) (uh S4)⟩
  ·rw [if_neg (by decide),if_neg (by decide),if_neg (by decide),if_pos (by decide)] at hR
   clear HD0
   clear hf
   have CM:=hide (fun v => cmode8_any 8 s v (uh HS) (by decide))
   have WM:=hide (mode_wf8 8 s)
   generalize modeV 8 s = M at CM WM hR
   obtain ⟨m1,m2⟩:=M
   unfold strV at CM
   simp only at CM WM hR
   cases m2
   ·rw [if_neg (by decide)] at hR
    subst hR
    go_wp2_with fail
    refine (uh CM _).mono ?_
    rintro e w5 ⟨rfl,hb5⟩
    have B5:=hide hb5
    clear hb5 CM
    go_wp2_with fail
    go_ret
    exact ⟨rfl,TkP.no ((uh ST).trans (Stay.below (uh B5) (Nat.le_of_lt (uh SG).lt)))⟩
   ·rw [if_pos rfl] at hR
    subst hR
    go_wp2_with fail
    refine (uh CM _).mono ?_
    rintro e w5 ⟨rfl,hb5⟩
    have SG5:=hide ((uh SG).stay hb5)
    have ST5:=hide ((uh ST).trans (Stay.below hb5 (Nat.le_of_lt (uh SG).lt)))
    have HZ5:=hide (Nat.le_trans (uh HZ) hb5.size)
    have x5:=((uh X3).below hb5).cell
    have y5:=((uh Y3).below hb5).cell
    have xl5:=((uh X3).below hb5).lt
    have yl5:=((uh Y3).below hb5).lt
    clear hb5 CM
    go_wp2_with fail
    refine (cwrite8_any nm _ st ne m1 B g D w5 (uh SG5) (uh HN) (uh WM) (uh HZ5)).mono ?_
    rintro e w4 ⟨rfl,s4,y4⟩
    have Y4:=hide y4
    have S4:=hide s4
    clear s4 y4
    go_wp2_with fail
    go_ret
    exact ⟨rfl,TkP.yes ((uh ST5).trans (uh Y4)) (uh S4)⟩
  ·rw [if_neg (by decide),if_neg (by decide),if_neg (by decide),if_pos (by decide)] at hR
   clear HD0
   clear hf
   have CM:=hide (fun v => cmode8_any 9 s v (uh HS) (by decide))
   have WM:=hide (mode_wf8 9 s)
   generalize modeV 9 s = M at CM WM hR
   obtain ⟨m1,m2⟩:=M
   unfold strV at CM
   simp only at CM WM hR
   cases m2
   ·rw [if_neg (by decide)] at hR
    subst hR
    go_wp2_with fail
    refine (uh CM _).mono ?_
    rintro e w5 ⟨rfl,hb5⟩
    have B5:=hide hb5
    clear hb5 CM
    go_wp2_with fail
    go_ret
    exact ⟨rfl,TkP.no ((uh ST).trans (Stay.below (uh B5) (Nat.le_of_lt (uh SG).lt)))⟩
   ·rw [if_pos rfl] at hR
    subst hR
    go_wp2_with fail
    refine (uh CM _).mono ?_
    rintro e w5 ⟨rfl,hb5⟩
    have SG5:=hide ((uh SG).stay hb5)
    have ST5:=hide ((uh ST).trans (Stay.below hb5 (Nat.le_of_lt (uh SG).lt)))
    have HZ5:=hide (Nat.le_trans (uh HZ) hb5.size)
    have x5:=((uh X3).below hb5).cell
    have y5:=((uh Y3).below hb5).cell
    have xl5:=((uh X3).below hb5).lt
    have yl5:=((uh Y3).below hb5).lt
    clear hb5 CM
    go_wp2_with fail
    refine (cwrite8_any nm _ st ne m1 B g D w5 (uh SG5) (uh HN) (uh WM) (uh HZ5)).mono ?_
    rintro e w4 ⟨rfl,s4,y4⟩
    have Y4:=hide y4
    have S4:=hide s4
    clear s4 y4
    go_wp2_with fail
    go_ret
    exact ⟨rfl,TkP.yes ((uh ST5).trans (uh Y4)) (uh S4)⟩
  ·rw [if_neg (by decide),if_neg (by decide),if_neg (by decide),if_pos (by decide)] at hR
   clear HD0
   clear hf
   have CM:=hide (fun v => cmode8_any 10 s v (uh HS) (by decide))
   have WM:=hide (mode_wf8 10 s)
   generalize modeV 10 s = M at CM WM hR
   obtain ⟨m1,m2⟩:=M
   unfold strV at CM
   simp only at CM WM hR
   cases m2
   ·rw [if_neg (by decide)] at hR
    subst hR
    go_wp2_with fail
    refine (uh CM _).mono ?_
    rintro e w5 ⟨rfl,hb5⟩
    have B5:=hide hb5
    clear hb5 CM
    go_wp2_with fail
    go_ret
    exact ⟨rfl,TkP.no ((uh ST).trans (Stay.below (uh B5) (Nat.le_of_lt (uh SG).lt)))⟩
   ·rw [if_pos rfl] at hR
    subst hR
    go_wp2_with fail
    refine (uh CM _).mono ?_
    rintro e w5 ⟨rfl,hb5⟩
    have SG5:=hide ((uh SG).stay hb5)
    have ST5:=hide ((uh ST).trans (Stay.below hb5 (Nat.le_of_lt (uh SG).lt)))
    have HZ5:=hide (Nat.le_trans (uh HZ) hb5.size)
    have x5:=((uh X3).below hb5).cell
    have y5:=((uh Y3).below hb5).cell
    have xl5:=((uh X3).below hb5).lt
    have yl5:=((uh Y3).below hb5).lt
    clear hb5 CM
    go_wp2_with fail
    refine (cwrite8_any nm _ st ne m1 B g D w5 (uh SG5) (uh HN) (uh WM) (uh HZ5)).mono ?_
    rintro e w4 ⟨rfl,s4,y4⟩
    have Y4:=hide y4
    have S4:=hide s4
    clear s4 y4
    go_wp2_with fail
    go_ret
    exact ⟨rfl,TkP.yes ((uh ST5).trans (uh Y4)) (uh S4)⟩
  ·rw [if_neg (by decide),if_neg (by decide),if_neg (by decide),if_pos (by decide)] at hR
   clear HD0
   clear hf
   have CM:=hide (fun v => cmode8_any 11 s v (uh HS) (by decide))
   have WM:=hide (mode_wf8 11 s)
   generalize modeV 11 s = M at CM WM hR
   obtain ⟨m1,m2⟩:=M
   unfold strV at CM
   simp only at CM WM hR
   cases m2
   ·rw [if_neg (by decide)] at hR
    subst hR
    go_wp2_with fail
    refine (uh CM _).mono ?_
    rintro e w5 ⟨rfl,hb5⟩
    have B5:=hide hb5
    clear hb5 CM
    go_wp2_with fail
    go_ret
    exact ⟨rfl,TkP.no ((uh ST).trans (Stay.below (uh B5) (Nat.le_of_lt (uh SG).lt)))⟩
   ·rw [if_pos rfl] at hR
    subst hR
    go_wp2_with fail
    refine (uh CM _).mono ?_
    rintro e w5 ⟨rfl,hb5⟩
    have SG5:=hide ((uh SG).stay hb5)
    have ST5:=hide ((uh ST).trans (Stay.below hb5 (Nat.le_of_lt (uh SG).lt)))
    have HZ5:=hide (Nat.le_trans (uh HZ) hb5.size)
    have x5:=((uh X3).below hb5).cell
    have y5:=((uh Y3).below hb5).cell
    have xl5:=((uh X3).below hb5).lt
    have yl5:=((uh Y3).below hb5).lt
    clear hb5 CM
    go_wp2_with fail
    refine (cwrite8_any nm _ st ne m1 B g D w5 (uh SG5) (uh HN) (uh WM) (uh HZ5)).mono ?_
    rintro e w4 ⟨rfl,s4,y4⟩
    have Y4:=hide y4
    have S4:=hide s4
    clear s4 y4
    go_wp2_with fail
    go_ret
    exact ⟨rfl,TkP.yes ((uh ST5).trans (uh Y4)) (uh S4)⟩
  ·rw [if_neg (by decide),if_neg (by decide),if_neg (by decide),if_neg (by decide),if_neg (by decide),if_pos (by decide)] at hR
   clear HD0
   subst hR
   clear hf
   go_wp2_with fail
   refine (ccopied8_any (t0,t1,t2,t3,t4) ⟨pd,cd,pf,cf,pi,ci,pb,cb⟩ w3 (uh HTN) (uh HT)).mono ?_
   rintro e w5 ⟨⟨⟨Cpd,Ccd,Cpf,Ccf,Cpi,Cci,Cpb,Ccb⟩,rfl,tf⟩,hb5⟩
   have SG5:=(uh SG).stay hb5
   have P5:=hide (SG5.putT (t0,t1,t2,t3,t4) ⟨Cpd,Ccd,Cpf,Ccf,Cpi,Cci,Cpb,Ccb⟩ (tf.own (B0:=B) (g:=g) (uh HZ) (uh HG3)))
   have ST5:=hide ((uh ST).trans (Stay.below hb5 (Nat.le_of_lt (uh SG).lt)))
   obtain ⟨⟨v31,c31⟩,f31⟩:=SG5.facts 31 (by decide)
   obtain ⟨⟨v32,c32⟩,f32⟩:=SG5.facts 32 (by decide)
   obtain ⟨⟨v33,c33⟩,f33⟩:=SG5.facts 33 (by decide)
   obtain ⟨⟨v34,c34⟩,f34⟩:=SG5.facts 34 (by decide)
   obtain ⟨⟨v35,c35⟩,f35⟩:=SG5.facts 35 (by decide)
   have gl5:=SG5.lt
   unfold tenV tenCells
   simp only
   clear tf hb5 SG5
   go_wp2_with fail
   go_ret
   exact ⟨rfl,TkP.yes ((uh ST5).trans (uh P5).2) (uh P5).1⟩
  ·rw [if_neg (by decide),if_neg (by decide),if_neg (by decide),if_neg (by decide),if_pos (by decide)] at hR
   clear HD0
   clear hf
   by_cases h1:t2.length + t3.length + t4.length = 1
   ·rw [if_pos h1] at hR
    subst hR
    have q1:(((t2.length:Int) + (t3.length:Int) + (t4.length:Int)) != 1) = false:=by simp; omega
    clear h1
    go_wp2_with fail
    refine (ccopied8_any (t0,t1,t2,t3,t4) ⟨pd,cd,pf,cf,pi,ci,pb,cb⟩ w3 (uh HTN) (uh HT)).mono ?_
    rintro e w5 ⟨⟨⟨Cpd,Ccd,Cpf,Ccf,Cpi,Cci,Cpb,Ccb⟩,rfl,tf⟩,hb5⟩
    have SG5:=(uh SG).stay hb5
    have P5:=hide (SG5.putT (t0,t1,t2,t3,t4) ⟨Cpd,Ccd,Cpf,Ccf,Cpi,Cci,Cpb,Ccb⟩ (tf.own (B0:=B) (g:=g) (uh HZ) (uh HG3)))
    have ST5:=hide ((uh ST).trans (Stay.below hb5 (Nat.le_of_lt (uh SG).lt)))
    obtain ⟨⟨v31,c31⟩,f31⟩:=SG5.facts 31 (by decide)
    obtain ⟨⟨v32,c32⟩,f32⟩:=SG5.facts 32 (by decide)
    obtain ⟨⟨v33,c33⟩,f33⟩:=SG5.facts 33 (by decide)
    obtain ⟨⟨v34,c34⟩,f34⟩:=SG5.facts 34 (by decide)
    obtain ⟨⟨v35,c35⟩,f35⟩:=SG5.facts 35 (by decide)
    have gl5:=SG5.lt
    unfold tenV tenCells
    simp only
    clear tf hb5 SG5
    go_wp2_with fail
    go_ret
    exact ⟨rfl,TkP.yes ((uh ST5).trans (uh P5).2) (uh P5).1⟩
   ·rw [if_neg h1] at hR
    subst hR
    have q1:(((t2.length:Int) + (t3.length:Int) + (t4.length:Int)) != 1) = true:=by simp; omega
    clear h1
    go_wp2_with fail
    go_ret
    exact ⟨rfl,TkP.no (uh ST)⟩
  ·rw [if_neg (by decide),if_neg (by decide),if_neg (by decide),if_neg (by decide),if_neg (by decide),if_neg (by decide),if_pos (by decide)] at hR
   have n8:=hold6_8 (x:=0) (y:=0) (m:=4096) (uh HD0)
   clear HD0
   subst hR
   clear hf
   have CC:=hide (fun v (hv:Below w3.heap.size w3 v) => cclone_u32 qf cfl fl v ((uh HF).below hv).ls (by omega))
   have WL:Hid ((Lit.int .i64 (fl.length:Int)).wf = true):=hide (len_wf8 (by omega))
   have y3':=((uh Y3).below (bdrew8 _)).cell
   have y3a:=((uh Y3).below (bl_tr (al1p w3 (Obj.cells #[.int .i64 (fl.length:Int)] 3)) (bdrew8 _))).cell
   have y3b:=((uh Y3).below (al1p w3 (Obj.cells #[.int .i64 (fl.length:Int)] 3))).cell
   have ne1:w.heap.size + 1 ≠ g:=by have:=uh HG; omega
   go_wp2_with fail
   go_region_held3 (fun w' => (∀ j,w'.cell? ⟨w.heap.size + 1,j,none⟩ = (#[.string (strOfNums nm2),.int .i64 kd,.int .u32 f,.int .i64 i,.string (strOfNums s),.int .i64 t0,.slice pd t1.length cd,.slice pf t2.length cf,.slice pi t3.length ci,.slice pb t4.length cb,.slice qf fl.length cfl,.slice qi is.length cis]:Array Value)[j]?)) (first | with_reducible assumption | with_reducible exact uh K5 _ _ _ _ _ | with_reducible exact uh K6 _ _ _ _ _)
    (first
     | (go_at_call 167; (refine (uh CC _ (by first | exact bdrew8 _ | exact bl_tr (al1p _ _) (bdrew8 _))).mono ?_; rintro e w5 ⟨⟨q5,d5,rfl,L5,F5⟩,hb5⟩; have HL5:=hide L5; have HF5:=hide F5; (first | (have h35:=bl_tr (bdrew8 _) hb5; have SG5:=(uh SG).stay h35) | (have h35:=bl_tr (bl_tr (al1p _ _) (bdrew8 _)) hb5; have SG5:=(uh SG).stay h35)); have B5:=hide h35; have Y5:=hide ((uh Y3).below h35); have y5:=(uh Y5).cell; have y5a:=((uh Y5).below (al1p _ (Obj.cells #[.int .i64 (fl.length:Int)] 3))).cell; have K5:=hide (fun u0 u1 u2 u3 u4 => (set5_off8 (uh Y5) ne1 u0 u1 u2 u3 u4).cell); have K6:=hide (fun u0 u1 u2 u3 u4 => ((set5_off8 (uh Y5) ne1 u0 u1 u2 u3 u4).below (al1p _ (Obj.cells #[.int .i64 (fl.length:Int)] 3))).cell); obtain ⟨⟨v31,c31⟩,f31⟩:=SG5.facts 31 (by decide); obtain ⟨⟨v32,c32⟩,f32⟩:=SG5.facts 32 (by decide); obtain ⟨⟨v33,c33⟩,f33⟩:=SG5.facts 33 (by decide); obtain ⟨⟨v34,c34⟩,f34⟩:=SG5.facts 34 (by decide); obtain ⟨⟨v35,c35⟩,f35⟩:=SG5.facts 35 (by decide); have gl5:=SG5.lt; have HB5:=hide hb5; clear L5 F5 hb5 h35 SG5)))
   ·go_wp2_with fail
    go_ret
    have hb5:=uh HB5
    have hz:=uh HZ
    have gl3':=(uh SG).lt
    have gl4':=uh HG3
    have od:OwL .i64 B g w5 (some ⟨w3.heap.size,0,none⟩) 1 [(fl.length:Int)]:=(ow_one8 (t:=3) w3 _ rfl hz (by omega) (uh WL)).stay (Stay.below (bl_tr (bdrew8 _) hb5) (by simp; omega))
    have oq:OwL .u32 B g w5 q5 d5 fl:=⟨(uh HL5).ints (uh HF).2.2.1,fun b o e hp => have k:=uh HF5 b o e hp; ⟨by have:=k.1; simp at this; omega,by have:=k.1; simp at this; omega,k.2⟩⟩
    have P5:=((uh SG).stay (uh B5)).putT (1,[(fl.length:Int)],fl,[],[]) ⟨some ⟨w3.heap.size,0,none⟩,1,q5,d5,none,0,none,0⟩ ⟨rfl,od,oq,OwL.nil _ _ _ _,OwB.nil _ _ _⟩
    exact ⟨rfl,TkP.yes ((uh ST).trans ((Stay.below (uh B5) (Nat.le_of_lt gl3')).trans P5.2)) P5.1⟩
   ·go_wp2_with fail
    go_ret
    have hb5:=uh HB5
    have hz:=uh HZ
    have gl3':=(uh SG).lt
    have gl4':=uh HG3
    have z5:=(uh B5).size
    have h5a:=bl_tr (uh B5) (al1p w5 (Obj.cells #[.int .i64 (fl.length:Int)] 3))
    have od:OwL .i64 B g (w5.alloc (Obj.cells #[.int .i64 (fl.length:Int)] 3)) (some ⟨w5.heap.size,0,none⟩) 1 [(fl.length:Int)]:=ow_one8 (t:=3) w5 _ rfl (by omega) (by omega) (uh WL)
    have oq:OwL .u32 B g w5 q5 d5 fl:=⟨(uh HL5).ints (uh HF).2.2.1,fun b o e hp => have k:=uh HF5 b o e hp; ⟨by have:=k.1; simp at this; omega,by have:=k.1; simp at this; omega,k.2⟩⟩
    have oq2:=oq.stay (Stay.below (al1p w5 (Obj.cells #[.int .i64 (fl.length:Int)] 3)) (by omega:g ≤ w5.heap.size))
    have P5:=((uh SG).stay h5a).putT (1,[(fl.length:Int)],fl,[],[]) ⟨some ⟨w5.heap.size,0,none⟩,1,q5,d5,none,0,none,0⟩ ⟨rfl,od,oq2,OwL.nil _ _ _ _,OwB.nil _ _ _⟩
    rw [sal5a gl5] at P5
    exact ⟨rfl,TkP.yes ((uh ST).trans ((Stay.below h5a (Nat.le_of_lt gl3')).trans P5.2)) P5.1⟩
  ·rw [if_neg (by decide),if_neg (by decide),if_neg (by decide),if_neg (by decide),if_neg (by decide),if_neg (by decide),if_neg (by decide),if_pos (by decide)] at hR
   have n8:=hold7_8 (x:=-9223372036854775808) (y:=9223372036854775807) (m:=4096) (uh HD0)
   clear HD0
   subst hR
   clear hf
   have CC:=hide (fun v (hv:Below w3.heap.size w3 v) => cclone_i64 qi cis is v ((uh HI).below hv).ls (by omega))
   have WL:Hid ((Lit.int .i64 (is.length:Int)).wf = true):=hide (len_wf8 (by omega))
   have y3':=((uh Y3).below (bdrew8 _)).cell
   have y3a:=((uh Y3).below (bl_tr (al1p w3 (Obj.cells #[.int .i64 (is.length:Int)] 3)) (bdrew8 _))).cell
   have y3b:=((uh Y3).below (al1p w3 (Obj.cells #[.int .i64 (is.length:Int)] 3))).cell
   have ne1:w.heap.size + 1 ≠ g:=by have:=uh HG; omega
   go_wp2_with fail
   go_region_held3 (fun w' => (∀ j,w'.cell? ⟨w.heap.size + 1,j,none⟩ = (#[.string (strOfNums nm2),.int .i64 kd,.int .u32 f,.int .i64 i,.string (strOfNums s),.int .i64 t0,.slice pd t1.length cd,.slice pf t2.length cf,.slice pi t3.length ci,.slice pb t4.length cb,.slice qf fl.length cfl,.slice qi is.length cis]:Array Value)[j]?)) (first | with_reducible assumption | with_reducible exact uh K5 _ _ _ _ _ | with_reducible exact uh K6 _ _ _ _ _)
    (first
     | (go_at_call 168; (refine (uh CC _ (by first | exact bdrew8 _ | exact bl_tr (al1p _ _) (bdrew8 _))).mono ?_; rintro e w5 ⟨⟨q5,d5,rfl,L5,F5⟩,hb5⟩; have HL5:=hide L5; have HF5:=hide F5; (first | (have h35:=bl_tr (bdrew8 _) hb5; have SG5:=(uh SG).stay h35) | (have h35:=bl_tr (bl_tr (al1p _ _) (bdrew8 _)) hb5; have SG5:=(uh SG).stay h35)); have B5:=hide h35; have Y5:=hide ((uh Y3).below h35); have y5:=(uh Y5).cell; have y5a:=((uh Y5).below (al1p _ (Obj.cells #[.int .i64 (is.length:Int)] 3))).cell; have K5:=hide (fun u0 u1 u2 u3 u4 => (set5_off8 (uh Y5) ne1 u0 u1 u2 u3 u4).cell); have K6:=hide (fun u0 u1 u2 u3 u4 => ((set5_off8 (uh Y5) ne1 u0 u1 u2 u3 u4).below (al1p _ (Obj.cells #[.int .i64 (is.length:Int)] 3))).cell); obtain ⟨⟨v31,c31⟩,f31⟩:=SG5.facts 31 (by decide); obtain ⟨⟨v32,c32⟩,f32⟩:=SG5.facts 32 (by decide); obtain ⟨⟨v33,c33⟩,f33⟩:=SG5.facts 33 (by decide); obtain ⟨⟨v34,c34⟩,f34⟩:=SG5.facts 34 (by decide); obtain ⟨⟨v35,c35⟩,f35⟩:=SG5.facts 35 (by decide); have gl5:=SG5.lt; have HB5:=hide hb5; clear L5 F5 hb5 h35 SG5)))
   ·go_wp2_with fail
    go_ret
    have hb5:=uh HB5
    have hz:=uh HZ
    have gl3':=(uh SG).lt
    have gl4':=uh HG3
    have od:OwL .i64 B g w5 (some ⟨w3.heap.size,0,none⟩) 1 [(is.length:Int)]:=(ow_one8 (t:=3) w3 _ rfl hz (by omega) (uh WL)).stay (Stay.below (bl_tr (bdrew8 _) hb5) (by simp; omega))
    have oq:OwL .i64 B g w5 q5 d5 is:=⟨(uh HL5).ints (uh HI).2.2.1,fun b o e hp => have k:=uh HF5 b o e hp; ⟨by have:=k.1; simp at this; omega,by have:=k.1; simp at this; omega,k.2⟩⟩
    have P5:=((uh SG).stay (uh B5)).putT (7,[(is.length:Int)],[],is,[]) ⟨some ⟨w3.heap.size,0,none⟩,1,none,0,q5,d5,none,0⟩ ⟨rfl,od,OwL.nil _ _ _ _,oq,OwB.nil _ _ _⟩
    exact ⟨rfl,TkP.yes ((uh ST).trans ((Stay.below (uh B5) (Nat.le_of_lt gl3')).trans P5.2)) P5.1⟩
   ·go_wp2_with fail
    go_ret
    have hb5:=uh HB5
    have hz:=uh HZ
    have gl3':=(uh SG).lt
    have gl4':=uh HG3
    have z5:=(uh B5).size
    have h5a:=bl_tr (uh B5) (al1p w5 (Obj.cells #[.int .i64 (is.length:Int)] 3))
    have od:OwL .i64 B g (w5.alloc (Obj.cells #[.int .i64 (is.length:Int)] 3)) (some ⟨w5.heap.size,0,none⟩) 1 [(is.length:Int)]:=ow_one8 (t:=3) w5 _ rfl (by omega) (by omega) (uh WL)
    have oq:OwL .i64 B g w5 q5 d5 is:=⟨(uh HL5).ints (uh HI).2.2.1,fun b o e hp => have k:=uh HF5 b o e hp; ⟨by have:=k.1; simp at this; omega,by have:=k.1; simp at this; omega,k.2⟩⟩
    have oq2:=oq.stay (Stay.below (al1p w5 (Obj.cells #[.int .i64 (is.length:Int)] 3)) (by omega:g ≤ w5.heap.size))
    have P5:=((uh SG).stay h5a).putT (7,[(is.length:Int)],[],is,[]) ⟨some ⟨w5.heap.size,0,none⟩,1,none,0,q5,d5,none,0⟩ ⟨rfl,od,OwL.nil _ _ _ _,oq2,OwB.nil _ _ _⟩
    rw [sal5a gl5] at P5
    exact ⟨rfl,TkP.yes ((uh ST).trans ((Stay.below h5a (Nat.le_of_lt gl3')).trans P5.2)) P5.1⟩
  ·rw [if_neg (by decide),if_neg (by decide),if_neg (by decide),if_neg (by decide),if_neg (by decide),if_neg (by decide),if_neg (by decide),if_neg (by decide)] at hR
   have n8:=hold7_8 (x:=0) (y:=7) (m:=8) (uh HD0)
   clear HD0
   subst hR
   clear hf
   go_wp2_with fail
   refine (cwlist8_any nm _ st ne qi cis is B g D w3 (uh SG) (uh HN) (uh HI) (by omega) (uh HZ)).mono ?_
   rintro e w4 ⟨rfl,s4,y4⟩
   have Y4:=hide y4
   have S4:=hide s4
   clear s4 y4
   go_wp2_with fail
   go_ret
   exact ⟨rfl,TkP.yes ((uh ST).trans (uh Y4)) (uh S4)⟩
  ·rw [if_neg (by decide),if_neg (by decide),if_neg (by decide),if_neg (by decide),if_neg (by decide),if_neg (by decide),if_neg (by decide),if_neg (by decide)] at hR
   have n8:=hold7_8 (x:=-8) (y:=8) (m:=8) (uh HD0)
   clear HD0
   subst hR
   clear hf
   go_wp2_with fail
   refine (cwlist8_any nm _ st ne qi cis is B g D w3 (uh SG) (uh HN) (uh HI) (by omega) (uh HZ)).mono ?_
   rintro e w4 ⟨rfl,s4,y4⟩
   have Y4:=hide y4
   have S4:=hide s4
   clear s4 y4
   go_wp2_with fail
   go_ret
   exact ⟨rfl,TkP.yes ((uh ST).trans (uh Y4)) (uh S4)⟩
  ·rw [if_neg (by decide),if_neg (by decide),if_neg (by decide),if_neg (by decide),if_neg (by decide),if_neg (by decide),if_neg (by decide),if_neg (by decide)] at hR
   have n8:=hold7_8 (x:=1) (y:=4096) (m:=8) (uh HD0)
   clear HD0
   subst hR
   clear hf
   go_wp2_with fail
   refine (cwlist8_any nm _ st ne qi cis is B g D w3 (uh SG) (uh HN) (uh HI) (by omega) (uh HZ)).mono ?_
   rintro e w4 ⟨rfl,s4,y4⟩
   have Y4:=hide y4
   have S4:=hide s4
   clear s4 y4
   go_wp2_with fail
   go_ret
   exact ⟨rfl,TkP.yes ((uh ST).trans (uh Y4)) (uh S4)⟩
  ·rw [if_neg (by decide),if_neg (by decide),if_neg (by decide),if_neg (by decide),if_neg (by decide),if_neg (by decide),if_neg (by decide),if_neg (by decide)] at hR
   have n8:=hold7_8 (x:=0) (y:=4096) (m:=16) (uh HD0)
   clear HD0
   subst hR
   clear hf
   go_wp2_with fail
   refine (cwlist8_any nm _ st ne qi cis is B g D w3 (uh SG) (uh HN) (uh HI) (by omega) (uh HZ)).mono ?_
   rintro e w4 ⟨rfl,s4,y4⟩
   have Y4:=hide y4
   have S4:=hide s4
   clear s4 y4
   go_wp2_with fail
   go_ret
   exact ⟨rfl,TkP.yes ((uh ST).trans (uh Y4)) (uh S4)⟩
end Go.Proofs.YtbmmcbagdomonaaGreat
