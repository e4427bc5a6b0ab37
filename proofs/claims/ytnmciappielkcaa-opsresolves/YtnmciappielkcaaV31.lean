import Derived.Test.YtnmciappielkcaaV30
set_option maxRecDepth 100000
set_option maxHeartbeats 8000000
namespace Go.Proofs.Ytnmciappielkcaa
open Go.RowKit
set_option linter.unusedVariables false
theorem alloc_size8 (w:World) (o:Obj):(w.alloc o).heap.size = w.heap.size + 1:=by simp
theorem al38 (w:World) (a b c:Obj):Below w.heap.size w (((w.alloc a).alloc b).alloc c) :=
 (((Below.refl _ _).alloc (Nat.le_refl _) _).alloc (by simp) _).alloc (by simp; omega) _
theorem rtensor8_own (T:Ten) (A:TA) (w:World) (h:TenIn w T A) (hs:T.2.1.length * 8 ≤ 140737488355328 ∧ T.2.2.1.length * 4 ≤ 140737488355328 ∧ T.2.2.2.1.length * 8 ≤ 140737488355328 ∧ T.2.2.2.2.length ≤ 140737488355328) :
  Calls Try.prog 57 #[tenV T A] w fun e w' => (∃ C,e = .returned (tenV T C) ∧ TenOwn w.heap.size w' T C) ∧ Below w.heap.size w w':=by
 obtain ⟨ty,ds,fs,is,bs⟩:=T
 obtain ⟨pd,cd,pf,cf,pi,ci,pb,cb⟩:=A
 obtain ⟨a0,a1,a2,a3,a4⟩:=h
 simp only at a0 a1 a2 a3 a4 hs
 obtain ⟨s1,s2,s3,s4⟩:=hs
 unfold tenV tenCells
 simp only
 obtain ⟨i1,hi1,y1,z1,b1⟩:=info_parts Try.info8int
 obtain ⟨i2,hi2,y2,z2,b2⟩:=info_parts Try.info8u32
 obtain ⟨i3,hi3,y3,z3,b3⟩:=info_parts Try.info8i64
 obtain ⟨i4,hi4,y4,z4,b4⟩:=info_parts Try.info8bool
 have A1:=hide a1
 have A2:=hide a2
 have A3:=hide a3
 have A4:=hide a4
 clear a1 a2 a3 a4
 go_enter Try.func57,Try.ntmps57
 go_wp2_with (first
  | (at_builtin; (refine wpList_append_ls rfl _ _ 27 rfl _ 3 i1 (.int .i64 0) 8 Try.underlying27 hi1 y1 z1 b1 rfl (int_one .i64) _ [] rfl (OwnG.nil _ _ _ (Below.refl _ _)) pd cd ds rfl ((uh A1).below (al38 _ _ _ _)).ls (by unfold maxLen; simp <;> omega) (by simp <;> omega) ?_; intro v1 w1 O1; obtain ⟨p1,c1,rfl,L1,F1⟩:=O1.form; have HL1:=hide L1; have HF1:=hide F1; have B1:=hide O1.2; have W1:=hide ((al38 _ _ _ _).trans (O1.2.mono (by simp; omega))); have XT1:=hide (Box.below (Box.alloc (Box.alloc (Box.new w #[(.int .i64 ty),(.slice pd ds.length cd),(.slice pf fs.length cf),(.slice pi is.length ci),(.slice pb bs.length cb)] 33) _) _) O1.2); have XR1:=hide (Box.below (Box.alloc (Box.new (w.alloc _) #[.int .i64 0,.slice none 0 0,.slice none 0 0,.slice none 0 0,.slice none 0 0] 33) _) O1.2); have XO1:=hide (Box.below (Box.new ((w.alloc _).alloc _) #[.int .i64 ty,.slice none 0 0,.slice none 0 0,.slice none 0 0,.slice none 0 0] 33) O1.2); simp only [alloc_size8] at XR1 XO1; have ct1:=(uh XT1).cell; have ft1:=(uh XT1).frozen; have cr1:=(uh XR1).cell; have fr1:=(uh XR1).frozen; have co1:=(uh XO1).cell; have fo1:=(uh XO1).frozen; have hz1:w.heap.size + 1 + 1 < w1.heap.size:=(uh XO1).lt; clear O1 L1 F1))
  | (at_builtin; (refine wpList_append_ls rfl _ _ 29 rfl _ 28 i2 (.int .u32 0) 4 Try.underlying29 hi2 y2 z2 b2 rfl (int_one .u32) _ [] rfl (OwnG.nil _ _ _ (Below.refl _ _)) pf cf fs rfl ((uh A2).below ((uh W1).setCell (by simp; omega) _)).ls (by unfold maxLen; simp <;> omega) (by simp <;> omega) ?_; intro v2 w2 O2; obtain ⟨p2,c2,rfl,L2,F2⟩:=O2.form; have HL2:=hide L2; have HF2:=hide F2; have B2:=hide O2.2; have W2:=hide (((uh W1).setCell (by simp; omega) _).trans (O2.2.mono (by simp [World.setCell]; omega))); have XT2:=hide (Box.below (Box.other (uh XT1) (by omega) 1 (.slice p1 ds.length c1)) O2.2); have XR2:=hide (Box.below (Box.other (uh XR1) (by omega) 1 (.slice p1 ds.length c1)) O2.2); have XO2:Hid (Box w2 (w.heap.size + 1 + 1) #[.int .i64 ty,.slice p1 ds.length c1,.slice none 0 0,.slice none 0 0,.slice none 0 0] 33):=hide (Box.below (Box.same (uh XO1) 1 (.slice p1 ds.length c1)) O2.2); clear ct1 ft1 cr1 fr1 co1 fo1; have ct2:=(uh XT2).cell; have ft2:=(uh XT2).frozen; have cr2:=(uh XR2).cell; have fr2:=(uh XR2).frozen; have co2:=(uh XO2).cell; have fo2:=(uh XO2).frozen; have hz2:w.heap.size + 1 + 1 < w2.heap.size:=(uh XO2).lt; clear O2 L2 F2))
  | (at_builtin; (refine wpList_append_ls rfl _ _ 30 rfl _ 2 i3 (.int .i64 0) 8 Try.underlying30 hi3 y3 z3 b3 rfl (int_one .i64) _ [] rfl (OwnG.nil _ _ _ (Below.refl _ _)) pi ci is rfl ((uh A3).below ((uh W2).setCell (by simp; omega) _)).ls (by unfold maxLen; simp <;> omega) (by simp <;> omega) ?_; intro v3 w3 O3; obtain ⟨p3,c3,rfl,L3,F3⟩:=O3.form; have HL3:=hide L3; have HF3:=hide F3; have B3:=hide O3.2; have W3:=hide (((uh W2).setCell (by simp; omega) _).trans (O3.2.mono (by simp [World.setCell]; omega))); have XT3:=hide (Box.below (Box.other (uh XT2) (by omega) 2 (.slice p2 fs.length c2)) O3.2); have XR3:=hide (Box.below (Box.other (uh XR2) (by omega) 2 (.slice p2 fs.length c2)) O3.2); have XO3:Hid (Box w3 (w.heap.size + 1 + 1) #[.int .i64 ty,.slice p1 ds.length c1,.slice p2 fs.length c2,.slice none 0 0,.slice none 0 0] 33):=hide (Box.below (Box.same (uh XO2) 2 (.slice p2 fs.length c2)) O3.2); clear ct2 ft2 cr2 fr2 co2 fo2; have ct3:=(uh XT3).cell; have ft3:=(uh XT3).frozen; have cr3:=(uh XR3).cell; have fr3:=(uh XR3).frozen; have co3:=(uh XO3).cell; have fo3:=(uh XO3).frozen; have hz3:w.heap.size + 1 + 1 < w3.heap.size:=(uh XO3).lt; clear O3 L3 F3))
  | (at_builtin; (refine wpList_append_ls rfl _ _ 31 rfl _ 4 i4 (.bool false) 1 Try.underlying31 hi4 y4 z4 b4 rfl bool_one _ [] rfl (OwnG.nil _ _ _ (Below.refl _ _)) pb cb bs rfl ((uh A4).below ((uh W3).setCell (by simp; omega) _)) (by unfold maxLen; simp <;> omega) (by simp <;> omega) ?_; intro v4 w4 O4; obtain ⟨p4,c4,rfl,L4,F4⟩:=O4.form; have HL4:=hide L4; have HF4:=hide F4; have B4:=hide O4.2; have W4:=hide (((uh W3).setCell (by simp; omega) _).trans (O4.2.mono (by simp [World.setCell]; omega))); have XT4:=hide (Box.below (Box.other (uh XT3) (by omega) 3 (.slice p3 is.length c3)) O4.2); have XR4:=hide (Box.below (Box.other (uh XR3) (by omega) 3 (.slice p3 is.length c3)) O4.2); have XO4:Hid (Box w4 (w.heap.size + 1 + 1) #[.int .i64 ty,.slice p1 ds.length c1,.slice p2 fs.length c2,.slice p3 is.length c3,.slice none 0 0] 33):=hide (Box.below (Box.same (uh XO3) 3 (.slice p3 is.length c3)) O4.2); clear ct3 ft3 cr3 fr3 co3 fo3; have ct4:=(uh XT4).cell; have ft4:=(uh XT4).frozen; have cr4:=(uh XR4).cell; have fr4:=(uh XR4).frozen; have co4:=(uh XO4).cell; have fo4:=(uh XO4).frozen; have hz4:w.heap.size + 1 + 1 < w4.heap.size:=(uh XO4).lt; clear O4 L4 F4))
  )
 have z12:w1.heap.size ≤ w2.heap.size:=by have:=(uh B2).size; simp [World.setCell] at this; omega
 have z23:w2.heap.size ≤ w3.heap.size:=by have:=(uh B3).size; simp [World.setCell] at this; omega
 have z34:w3.heap.size ≤ w4.heap.size:=by have:=(uh B4).size; simp [World.setCell] at this; omega
 have y1':w.heap.size + 3 ≤ w1.heap.size:=by have:=(uh B1).size; simp at this; omega
 have l1:=uh HL1
 have l2:=uh HL2
 have l3:=uh HL3
 have l4:=uh HL4
 have f1:Fresh (w.heap.size + 3) w1 p1 ds.length:=(uh HF1).mono (by simp <;> omega)
 have f2:Fresh w1.heap.size w2 p2 fs.length:=(uh HF2).mono (by simp [World.setCell])
 have f3:Fresh w2.heap.size w3 p3 is.length:=(uh HF3).mono (by simp [World.setCell])
 have f4:Fresh w3.heap.size w4 p4 bs.length:=(uh HF4).mono (by simp [World.setCell])
 have m4:∀ u0 u1 u2 u3 u4 u5,Mid w.heap.size (w.heap.size + 3) w4 ((((((w4.setCell ⟨w.heap.size + 1 + 1,4,none⟩ u0).setCell ⟨w.heap.size + 1,0,none⟩ u1).setCell ⟨w.heap.size + 1,1,none⟩ u2).setCell ⟨w.heap.size + 1,2,none⟩ u3).setCell ⟨w.heap.size + 1,3,none⟩ u4).setCell ⟨w.heap.size + 1,4,none⟩ u5):=fun _ _ _ _ _ _ =>
  ((((((Mid.refl _ _ _).setCell (by simp <;> omega) (by simp <;> omega) _).setCell (by simp) (by simp) _).setCell (by simp) (by simp) _).setCell (by simp) (by simp) _).setCell (by simp) (by simp) _).setCell (by simp) (by simp) _
 have m3:Mid w.heap.size (w.heap.size + 3) w3 w4:=((Mid.refl _ _ _).setCell (q:=⟨w.heap.size + 1 + 1,3,none⟩) (by simp <;> omega) (by simp <;> omega) _).below (uh B4)
 have m2:Mid w.heap.size (w.heap.size + 3) w2 w3:=((Mid.refl _ _ _).setCell (q:=⟨w.heap.size + 1 + 1,2,none⟩) (by simp <;> omega) (by simp <;> omega) _).below (uh B3)
 have m1:Mid w.heap.size (w.heap.size + 3) w1 w2:=((Mid.refl _ _ _).setCell (q:=⟨w.heap.size + 1 + 1,1,none⟩) (by simp <;> omega) (by simp <;> omega) _).below (uh B2)
 have k1:∀ b o,p1 = some ⟨b,o,none⟩ → 0 < ds.length → b < w.heap.size ∨ w.heap.size + 3 ≤ b:=fun b o e hp => .inr (f1 b o e hp).1
 have k2:∀ b o,p2 = some ⟨b,o,none⟩ → 0 < fs.length → b < w.heap.size ∨ w.heap.size + 3 ≤ b:=fun b o e hp => .inr (by have:=(f2 b o e hp).1; omega)
 have k3:∀ b o,p3 = some ⟨b,o,none⟩ → 0 < is.length → b < w.heap.size ∨ w.heap.size + 3 ≤ b:=fun b o e hp => .inr (by have:=(f3 b o e hp).1; omega)
 have k4:∀ b o,p4 = some ⟨b,o,none⟩ → 0 < bs.length → b < w.heap.size ∨ w.heap.size + 3 ≤ b:=fun b o e hp => .inr (by have:=(f4 b o e hp).1; omega)
 have n1:=m1.trans (m2.trans m3)
 have n2:=m2.trans m3
 refine bodyPost_ret (v:=.agg #[.int .i64 ty,.slice p1 ds.length c1,.slice p2 fs.length c2,.slice p3 is.length c3,.slice p4 bs.length c4]) (by simp [results,Try.results57,go_sem,cr4]) rfl ⟨⟨⟨p1,c1,p2,c2,p3,c3,p4,c4⟩,rfl,?_⟩,?_⟩
 ·refine ⟨⟨a0,(l1.mid (n1.trans (m4 _ _ _ _ _ _)) k1).ints (uh A1).2.2.1,(l2.mid (n2.trans (m4 _ _ _ _ _ _)) k2).ints (uh A2).2.2.1,(l3.mid (m3.trans (m4 _ _ _ _ _ _)) k3).ints (uh A3).2.2.1,l4.mid (m4 _ _ _ _ _ _) k4⟩,
   (f1.mid l1 rfl (n1.trans (m4 _ _ _ _ _ _)) k1).mono (by omega),(f2.mid l2 rfl (n2.trans (m4 _ _ _ _ _ _)) k2).mono (by omega),(f3.mid l3 rfl (m3.trans (m4 _ _ _ _ _ _)) k3).mono (by omega),(f4.mid l4 rfl (m4 _ _ _ _ _ _) k4).mono (by omega),
   fresh_apart l1 rfl (Nat.le_refl _) f2,fresh_apart l1 rfl z12 f3,fresh_apart l1 rfl (Nat.le_trans z12 z23) f4,fresh_apart l2 rfl (Nat.le_refl _) f3,fresh_apart l2 rfl z23 f4,fresh_apart l3 rfl (Nat.le_refl _) f4⟩
 ·exact (((((((uh W4).setCell (by simp <;> omega) _).setCell (by simp) _).setCell (by simp) _).setCell (by simp) _).setCell (by simp) _).setCell (by simp) _)
theorem rtensor8_any (T:Ten) (A:TA) (w:World) (h:TenIn w T A) (hs:okT8 T) :
  Calls Try.prog 57 #[tenV T A] w fun e w' => (∃ C,e = .returned (tenV T C) ∧ TenF w.heap.size w' T C) ∧ Below w.heap.size w w' :=
 (rtensor8_own T A w h hs).mono fun e w' ⟨⟨C,h1,h2⟩,h3⟩ => ⟨⟨C,h1,h2.1,h2.2.1,h2.2.2.1,h2.2.2.2.1,h2.2.2.2.2.1⟩,h3⟩
end Go.Proofs.Ytnmciappielkcaa
