import Derived.Lib.SliceRun
import Derived.Deep.RegionHeld3
import Derived.Test.YtbmmcbagdomonaaGreatV23
import Derived.Test.YtbmmcbagdomonaaGreatV27
set_option maxRecDepth 100000
set_option maxHeartbeats 40000000
namespace Go.Proofs.YtbmmcbagdomonaaGreat
open Go.RowKit
set_option linter.unusedVariables false
set_option linter.unusedSimpArgs false
theorem OwnG.empty8 {α:Type} {f:α → Value} (t:TypeId) (w:World):OwnG t f w (w.alloc (.cells #[] t)) (.slice (some ⟨w.heap.size,0,none⟩) 0 0) []:=by
 refine ⟨⟨rfl,.inr ⟨w.heap.size,0,#[],rfl,Nat.le_refl _,heap_alloc_new w _,Nat.le_refl _,by decide,rfl,rfl⟩⟩,al1p w _⟩
theorem bdrew8 (w:World):Below w.heap.size w w.drew:=Below.drew (Below.refl _ _)
theorem Tryz.info8int:(Tryz.prog.info? 3).map (fun i => (i.zero,i.size,i.bytes)) = some (some (.int .i64 0),1,8):=by kernel_rfl
theorem cclone_int (p:Option Addr) (c:Nat) (xs:List Int) (w:World) (h:Ls (Value.int .i64) w p c xs) (hs:xs.length * 8 ≤ 140737488355328) :
  Calls Tryz.prog 178 #[.slice p xs.length c] w fun e w' => (∃ q d,e = .returned (.slice q xs.length d) ∧ Ls (Value.int .i64) w' q d xs ∧ Fresh w.heap.size w' q xs.length) ∧ Below w.heap.size w w':=by
 obtain ⟨i1,hi1,y1,z1,b1⟩:=info_parts Tryz.info8int
 have A1:=hide h
 have hnil:=fun (w:World) (a:Option Addr) (n c:Nat) => Go.Lib.run_eql_slice_nil (P:=Tryz.prog) w 30 3 a n c 0 0 Tryz.underlying30
 cases p with
 | none =>
   have hc0:c = 0:=h.2.2.2 rfl
   have hx0:xs = []:=List.eq_nil_of_length_eq_zero (by have:=h.1; omega)
   subst hc0 hx0
   clear h
   go_enter Tryz.func178,Tryz.ntmps178
   go_wp2_with fail
   go_ret
   exact ⟨⟨none,0,rfl,Ls.nil _,Fresh.nil _ _⟩,Below.refl _ _⟩
 | some ad =>
   clear h
   have hs2:xs.length ≤ 140737488355328:=by omega
   go_enter Tryz.func178,Tryz.ntmps178
   go_wp2_with (at_builtin; (refine wpList_append_ls rfl _ _ 30 rfl w 3 i1 (.int .i64 0) 8 Tryz.underlying30 hi1 y1 z1 b1 rfl (int_one .i64) _ [] rfl (OwnG.empty8 _ _) (some ad) c xs rfl ((uh A1).below (al1p _ _)) (by unfold maxLen; simp <;> omega) (by simp <;> omega) ?_; intro v2 w2 O2; obtain ⟨q,d,hq,hL,hF⟩:=O2.form; simp only [List.nil_append] at hq hL hF; have HL:=hide hL; have HF:=hide hF; have HB:=hide O2.2; subst hq; clear O2 hL hF))
   go_ret
   exact ⟨⟨q,d,rfl,uh HL,uh HF⟩,uh HB⟩
theorem Tryz.info8u32:(Tryz.prog.info? 43).map (fun i => (i.zero,i.size,i.bytes)) = some (some (.int .u32 0),1,4):=by kernel_rfl
theorem cclone_u32 (p:Option Addr) (c:Nat) (xs:List Int) (w:World) (h:Ls (Value.int .u32) w p c xs) (hs:xs.length * 4 ≤ 140737488355328) :
  Calls Tryz.prog 167 #[.slice p xs.length c] w fun e w' => (∃ q d,e = .returned (.slice q xs.length d) ∧ Ls (Value.int .u32) w' q d xs ∧ Fresh w.heap.size w' q xs.length) ∧ Below w.heap.size w w':=by
 obtain ⟨i1,hi1,y1,z1,b1⟩:=info_parts Tryz.info8u32
 have A1:=hide h
 have hnil:=fun (w:World) (a:Option Addr) (n c:Nat) => Go.Lib.run_eql_slice_nil (P:=Tryz.prog) w 44 43 a n c 0 0 Tryz.underlying44
 cases p with
 | none =>
   have hc0:c = 0:=h.2.2.2 rfl
   have hx0:xs = []:=List.eq_nil_of_length_eq_zero (by have:=h.1; omega)
   subst hc0 hx0
   clear h
   go_enter Tryz.func167,Tryz.ntmps167
   go_wp2_with fail
   go_ret
   exact ⟨⟨none,0,rfl,Ls.nil _,Fresh.nil _ _⟩,Below.refl _ _⟩
 | some ad =>
   clear h
   have hs2:xs.length ≤ 140737488355328:=by omega
   go_enter Tryz.func167,Tryz.ntmps167
   go_wp2_with (at_builtin; (refine wpList_append_ls rfl _ _ 44 rfl w 43 i1 (.int .u32 0) 4 Tryz.underlying44 hi1 y1 z1 b1 rfl (int_one .u32) _ [] rfl (OwnG.empty8 _ _) (some ad) c xs rfl ((uh A1).below (al1p _ _)) (by unfold maxLen; simp <;> omega) (by simp <;> omega) ?_; intro v2 w2 O2; obtain ⟨q,d,hq,hL,hF⟩:=O2.form; simp only [List.nil_append] at hq hL hF; have HL:=hide hL; have HF:=hide hF; have HB:=hide O2.2; subst hq; clear O2 hL hF))
   go_ret
   exact ⟨⟨q,d,rfl,uh HL,uh HF⟩,uh HB⟩
theorem Tryz.info8i64:(Tryz.prog.info? 2).map (fun i => (i.zero,i.size,i.bytes)) = some (some (.int .i64 0),1,8):=by kernel_rfl
theorem cclone_i64 (p:Option Addr) (c:Nat) (xs:List Int) (w:World) (h:Ls (Value.int .i64) w p c xs) (hs:xs.length * 8 ≤ 140737488355328) :
  Calls Tryz.prog 168 #[.slice p xs.length c] w fun e w' => (∃ q d,e = .returned (.slice q xs.length d) ∧ Ls (Value.int .i64) w' q d xs ∧ Fresh w.heap.size w' q xs.length) ∧ Below w.heap.size w w':=by
 obtain ⟨i1,hi1,y1,z1,b1⟩:=info_parts Tryz.info8i64
 have A1:=hide h
 have hnil:=fun (w:World) (a:Option Addr) (n c:Nat) => Go.Lib.run_eql_slice_nil (P:=Tryz.prog) w 45 2 a n c 0 0 Tryz.underlying45
 cases p with
 | none =>
   have hc0:c = 0:=h.2.2.2 rfl
   have hx0:xs = []:=List.eq_nil_of_length_eq_zero (by have:=h.1; omega)
   subst hc0 hx0
   clear h
   go_enter Tryz.func168,Tryz.ntmps168
   go_wp2_with fail
   go_ret
   exact ⟨⟨none,0,rfl,Ls.nil _,Fresh.nil _ _⟩,Below.refl _ _⟩
 | some ad =>
   clear h
   have hs2:xs.length ≤ 140737488355328:=by omega
   go_enter Tryz.func168,Tryz.ntmps168
   go_wp2_with (at_builtin; (refine wpList_append_ls rfl _ _ 45 rfl w 2 i1 (.int .i64 0) 8 Tryz.underlying45 hi1 y1 z1 b1 rfl (int_one .i64) _ [] rfl (OwnG.empty8 _ _) (some ad) c xs rfl ((uh A1).below (al1p _ _)) (by unfold maxLen; simp <;> omega) (by simp <;> omega) ?_; intro v2 w2 O2; obtain ⟨q,d,hq,hL,hF⟩:=O2.form; simp only [List.nil_append] at hq hL hF; have HL:=hide hL; have HF:=hide hF; have HB:=hide O2.2; subst hq; clear O2 hL hF))
   go_ret
   exact ⟨⟨q,d,rfl,uh HL,uh HF⟩,uh HB⟩
theorem Tryz.info8bool:(Tryz.prog.info? 4).map (fun i => (i.zero,i.size,i.bytes)) = some (some (.bool false),1,1):=by kernel_rfl
theorem cclone_bool (p:Option Addr) (c:Nat) (xs:List Bool) (w:World) (h:Ls (Value.bool) w p c xs) (hs:xs.length * 1 ≤ 140737488355328) :
  Calls Tryz.prog 179 #[.slice p xs.length c] w fun e w' => (∃ q d,e = .returned (.slice q xs.length d) ∧ Ls (Value.bool) w' q d xs ∧ Fresh w.heap.size w' q xs.length) ∧ Below w.heap.size w w':=by
 obtain ⟨i1,hi1,y1,z1,b1⟩:=info_parts Tryz.info8bool
 have A1:=hide h
 have hnil:=fun (w:World) (a:Option Addr) (n c:Nat) => Go.Lib.run_eql_slice_nil (P:=Tryz.prog) w 39 4 a n c 0 0 Tryz.underlying39
 cases p with
 | none =>
   have hc0:c = 0:=h.2.2.2 rfl
   have hx0:xs = []:=List.eq_nil_of_length_eq_zero (by have:=h.1; omega)
   subst hc0 hx0
   clear h
   go_enter Tryz.func179,Tryz.ntmps179
   go_wp2_with fail
   go_ret
   exact ⟨⟨none,0,rfl,Ls.nil _,Fresh.nil _ _⟩,Below.refl _ _⟩
 | some ad =>
   clear h
   have hs2:xs.length ≤ 140737488355328:=by omega
   go_enter Tryz.func179,Tryz.ntmps179
   go_wp2_with (at_builtin; (refine wpList_append_ls rfl _ _ 39 rfl w 4 i1 (.bool false) 1 Tryz.underlying39 hi1 y1 z1 b1 rfl (bool_one) _ [] rfl (OwnG.empty8 _ _) (some ad) c xs rfl ((uh A1).below (al1p _ _)) (by unfold maxLen; simp <;> omega) (by simp <;> omega) ?_; intro v2 w2 O2; obtain ⟨q,d,hq,hL,hF⟩:=O2.form; simp only [List.nil_append] at hq hL hF; have HL:=hide hL; have HF:=hide hF; have HB:=hide O2.2; subst hq; clear O2 hL hF))
   go_ret
   exact ⟨⟨q,d,rfl,uh HL,uh HF⟩,uh HB⟩
def TenF (B:Nat) (w:World) (T:Ten) (A:TA):Prop:=TenIn w T A ∧ Fresh B w A.pd T.2.1.length ∧ Fresh B w A.pf T.2.2.1.length ∧ Fresh B w A.pi T.2.2.2.1.length ∧ Fresh B w A.pb T.2.2.2.2.length
theorem TenF.own {B B0 g:Nat} {w:World} {T:Ten} {A:TA} (h:TenF B w T A) (hB:B0 ≤ B) (hg:g + 1 < B):TenO B0 g w T A :=
 ⟨h.1.1,⟨h.1.2.1,fun b o e hp => have k:=h.2.1 b o e hp; ⟨by omega,by omega,k.2⟩⟩,⟨h.1.2.2.1,fun b o e hp => have k:=h.2.2.1 b o e hp; ⟨by omega,by omega,k.2⟩⟩,⟨h.1.2.2.2.1,fun b o e hp => have k:=h.2.2.2.1 b o e hp; ⟨by omega,by omega,k.2⟩⟩,⟨h.1.2.2.2.2,fun b o e hp => have k:=h.2.2.2.2 b o e hp; ⟨by omega,by omega,k.2⟩⟩⟩
theorem TenO.stay1 {B g:Nat} {w w':World} {T:Ten} {A:TA} (h:TenO B g w T A) (hs:Stay (g + 1) w w'):TenO B g w' T A:=⟨h.1,h.2.1.stay1 hs,h.2.2.1.stay1 hs,h.2.2.2.1.stay1 hs,h.2.2.2.2.stay1 hs⟩
theorem TenO.fresh {B g:Nat} {w:World} {T:Ten} {A:TA} (h:TenO B g w T A):TenF B w T A :=
 ⟨h.inn,fun b o e hp => have k:=h.2.1.2 b o e hp; ⟨k.1,k.2.2⟩,fun b o e hp => have k:=h.2.2.1.2 b o e hp; ⟨k.1,k.2.2⟩,fun b o e hp => have k:=h.2.2.2.1.2 b o e hp; ⟨k.1,k.2.2⟩,fun b o e hp => have k:=h.2.2.2.2.2 b o e hp; ⟨k.1,k.2.2⟩⟩
def okT8 (T:Ten):Prop:=T.2.1.length * 8 ≤ 140737488355328 ∧ T.2.2.1.length * 4 ≤ 140737488355328 ∧ T.2.2.2.1.length * 8 ≤ 140737488355328 ∧ T.2.2.2.2.length ≤ 140737488355328
theorem Stay.set5 {g:Nat} {w:World} (v0 v1 v2 v3 v4:Value) (a b c d e:Nat):Stay g w (((((w.setCell ⟨g,a,none⟩ v0).setCell ⟨g,b,none⟩ v1).setCell ⟨g,c,none⟩ v2).setCell ⟨g,d,none⟩ v3).setCell ⟨g,e,none⟩ v4) :=
 (((((Stay.set8 v0).trans (Stay.set8 v1)).trans (Stay.set8 v2)).trans (Stay.set8 v3)).trans (Stay.set8 v4))
theorem ccopied8_any (T:Ten) (A:TA) (w:World) (h:TenIn w T A) (hs:okT8 T) :
  Calls Tryz.prog 166 #[tenV T A] w fun e w' => (∃ C,e = .returned (tenV T C) ∧ TenF w.heap.size w' T C) ∧ Below w.heap.size w w':=by
 obtain ⟨ty,ds,fs,is,bs⟩:=T
 obtain ⟨pd,cd,pf,cf,pi,ci,pb,cb⟩:=A
 obtain ⟨a0,a1,a2,a3,a4⟩:=h
 obtain ⟨s1,s2,s3,s4⟩:=hs
 simp only at a0 a1 a2 a3 a4 s1 s2 s3 s4
 unfold tenV tenCells
 simp only
 have wfd:=hide a1.2.2.1
 have wff:=hide a2.2.2.1
 have wfi:=hide a3.2.2.1
 have C1:=hide (fun v (hv:Below w.heap.size w v) => cclone_int pd cd ds v (a1.below hv).ls s1)
 have C2:=hide (fun v (hv:Below w.heap.size w v) => cclone_u32 pf cf fs v (a2.below hv).ls s2)
 have C3:=hide (fun v (hv:Below w.heap.size w v) => cclone_i64 pi ci is v (a3.below hv).ls s3)
 have C4:=hide (fun v (hv:Below w.heap.size w v) => cclone_bool pb cb bs v (a4.below hv) (by omega))
 clear a1 a2 a3 a4 s1 s2 s3 s4
 go_enter Tryz.func166,Tryz.ntmps166
 go_wp2_with fail
 obtain ⟨v0,hv0⟩:∃ v0,v0 = ((w.alloc (Obj.cells #[.int .i64 ty,.slice pd ds.length cd,.slice pf fs.length cf,.slice pi is.length ci,.slice pb bs.length cb] 47)).alloc (Obj.cells #[.int .i64 0,.slice none 0 0,.slice none 0 0,.slice none 0 0,.slice none 0 0] 47)):=⟨_,rfl⟩
 have X0:Hid (Box v0 w.heap.size #[.int .i64 ty,.slice pd ds.length cd,.slice pf fs.length cf,.slice pi is.length ci,.slice pb bs.length cb] 47):=hide (by rw [hv0]; exact Box.alloc (Box.new w _ _) _)
 have R0:Hid (Box v0 (w.heap.size + 1) #[.int .i64 0,.slice none 0 0,.slice none 0 0,.slice none 0 0,.slice none 0 0] 47):=hide (by rw [hv0]; have:=Box.new (w.alloc (Obj.cells #[.int .i64 ty,.slice pd ds.length cd,.slice pf fs.length cf,.slice pi is.length ci,.slice pb bs.length cb] 47)) #[.int .i64 0,.slice none 0 0,.slice none 0 0,.slice none 0 0,.slice none 0 0] 47; simp at this; exact this)
 have B0:Hid (Below w.heap.size w v0):=hide (by rw [hv0]; exact bl_tr (al1p _ _) (al1p _ _))
 have Z0:Hid (v0.heap.size = w.heap.size + 2):=hide (by rw [hv0]; simp)
 rw [← hv0]
 clear hv0
 have x0:=(uh X0).cell
 have x0':=((uh X0).below (bdrew8 _)).cell
 go_region_held3 (fun w' => (∀ j,w'.cell? ⟨w.heap.size,j,none⟩ = (#[.int .i64 ty,.slice pd ds.length cd,.slice pf fs.length cf,.slice pi is.length ci,.slice pb bs.length cb]:Array Value)[j]?)) (first | with_reducible assumption | with_reducible exact uh S4 _ _ _ _ _)
  (first
   | (go_at_call 179; (refine (uh C4 _ (uh B3)).mono ?_; rintro e w4 ⟨⟨q4,d4,rfl,L4,F4⟩,hb⟩; have HL4:=hide L4; have HF4:=hide F4; have X4:=hide ((uh X3).below (hb)); have R4:=hide ((uh R3).below (hb)); have B4:=hide (bl_tr (uh B3) (hb)); have M4:=hide hb; clear x3 L4 F4; have x4:=(uh X4).cell; have r4:=(uh R4).cell; have f4:=(uh R4).frozen; have S4:=hide (fun u0 u1 u2 u3 u4 => ((uh X4).off5 (by omega:w.heap.size ≠ w.heap.size + 1) u0 u1 u2 u3 u4).cell); have l4:=(uh R4).lt; clear hb))
   | (go_at_call 168; (refine (uh C3 _ (uh B2)).mono ?_; rintro e w3 ⟨⟨q3,d3,rfl,L3,F3⟩,hb⟩; have HL3:=hide L3; have HF3:=hide F3; have X3:=hide ((uh X2).below (hb)); have R3:=hide ((uh R2).below (hb)); have B3:=hide (bl_tr (uh B2) (hb)); have M3:=hide hb; clear x2 L3 F3; have x3:=(uh X3).cell; clear hb))
   | (go_at_call 167; (refine (uh C2 _ (uh B1)).mono ?_; rintro e w2 ⟨⟨q2,d2,rfl,L2,F2⟩,hb⟩; have HL2:=hide L2; have HF2:=hide F2; have X2:=hide ((uh X1).below (hb)); have R2:=hide ((uh R1).below (hb)); have B2:=hide (bl_tr (uh B1) (hb)); have M2:=hide hb; clear x1 L2 F2; have x2:=(uh X2).cell; clear hb))
   | (go_at_call 178; (refine (uh C1 _ (bl_tr (uh B0) (bdrew8 _))).mono ?_; rintro e w1 ⟨⟨q1,d1,rfl,L1,F1⟩,hb⟩; have HL1:=hide L1; have HF1:=hide F1; have X1:=hide ((uh X0).below (bl_tr (bdrew8 _) hb)); have R1:=hide ((uh R0).below (bl_tr (bdrew8 _) hb)); have B1:=hide (bl_tr (uh B0) (bl_tr (bdrew8 _) hb)); have M1:=hide hb; clear x0 L1 F1; have x1:=(uh X1).cell; clear hb)))
 go_wp2_with fail
 have m2:=uh M2
 have m3:=uh M3
 have m4:=uh M4
 have l1:=uh HL1
 have l2:=uh HL2
 have l3:=uh HL3
 have l4:=uh HL4
 have g1:Fresh (w.heap.size + 2) w1 q1 ds.length:=(uh HF1).mono (by have:=uh Z0; simp; omega)
 have zz:w.heap.size + 2 ≤ w1.heap.size:=by have:=uh Z0; have:=(uh M1).size; simp at this; omega
 have g2:=uh HF2
 have g3:=uh HF3
 have g4:=uh HF4
 have z2:=m2.size
 have z3:=m3.size
 have z4:=m4.size
 have O4:TenF (w.heap.size + 2) w4 (ty,ds,fs,is,bs) ⟨q1,d1,q2,d2,q3,d3,q4,d4⟩ :=
  ⟨⟨a0,(((l1.below m2).below m3).below m4).ints (uh wfd),((l2.below m3).below m4).ints (uh wff),(l3.below m4).ints (uh wfi),l4⟩,
   ((g1.below l1 rfl m2).below (l1.below m2) rfl m3).below ((l1.below m2).below m3) rfl m4,((g2.below l2 rfl m3).below (l2.below m3) rfl m4).mono (by omega),(g3.below l3 rfl m4).mono (by omega),g4.mono (by omega)⟩
 have O5:=((O4.own (B0:=w.heap.size) (g:=w.heap.size) (by omega) (by omega)).stay1 (Stay.set5 (.int .i64 ty) (.slice q1 ds.length d1) (.slice q2 fs.length d2) (.slice q3 is.length d3) (.slice q4 bs.length d4) 0 1 2 3 4)).fresh
 refine bodyPost_ret (v:=.agg #[.int .i64 ty,.slice q1 ds.length d1,.slice q2 fs.length d2,.slice q3 is.length d3,.slice q4 bs.length d4]) (by simp [results,Tryz.results166,go_sem,((uh R4).set5 (.int .i64 ty) (.slice q1 ds.length d1) (.slice q2 fs.length d2) (.slice q3 is.length d3) (.slice q4 bs.length d4)).cell]) rfl ⟨⟨⟨q1,d1,q2,d2,q3,d3,q4,d4⟩,rfl,O5⟩,bset5 (uh B4) (by omega) _ _ _ _ _⟩
def wlL (nm:Str) (xs:List Int):List (Nat × FV) :=
 if nm = [112,101,114,109] then [(7,FV.l xs),(8,FV.b true)] else
 if nm = [97,120,101,115] then [(1,FV.l xs),(2,FV.b true)] else
 if nm = [100,105,108,97,116,105,111,110,115] then [(23,FV.l xs)] else
 if nm = [107,101,114,110,101,108,95,115,104,97,112,101] then [(20,FV.l xs)] else
 if nm = [112,97,100,115] then [(22,FV.l xs)] else
 if nm = [115,116,114,105,100,101,115] then [(21,FV.l xs)] else []
theorem lit_yes8 {s:Str} (hs:isB s) (t:Str) (ht:t.all (fun c => decide (0 ≤ c) && decide (c < 256)) = true) (l:List UInt8) (hl:(t.map fun n => UInt8.ofNat n.toNat) = l) (h:s = t):((strOfNums s).toList == l) = true:=by
 rw [str_lit8 s hs t (isB_of ht) l hl]; simp [h]
theorem fin_l8 {B g k:Nat} {D:SeD} {w W:World} {p:Option Addr} {c n:Nat} {xs:List Int} (hn:n = xs.length) (H:SeB B g w D) (hb:Below w.heap.size w W) (hx:OwL .i64 B g W p c xs) (hk:k ≤ 30) (hf:kindsK.getD k 0 = 3):SeB B g (W.setCell ⟨g,k,none⟩ (.slice p n c)) (updD D k (.l xs)) ∧ Stay g w (W.setCell ⟨g,k,none⟩ (.slice p n c)):=by
 subst hn
 have h1:=(H.stay hb).putL k p c xs hx hk hf
 exact ⟨h1.1,(Stay.below hb (Nat.le_of_lt H.lt)).trans h1.2⟩
theorem fin_m8 {B g k j:Nat} {D:SeD} {w W:World} {p:Option Addr} {c n:Nat} {xs:List Int} (hn:n = xs.length) (H:SeB B g w D) (hb:Below w.heap.size w W) (hx:OwL .i64 B g W p c xs) (hk:k ≤ 30) (hf:kindsK.getD k 0 = 3) (hj:j ≤ 30) (hg:kindsK.getD j 0 = 2) :
  SeB B g ((W.setCell ⟨g,k,none⟩ (.slice p n c)).setCell ⟨g,j,none⟩ (.bool true)) (updD (updD D k (.l xs)) j (.b true)) ∧ Stay g w ((W.setCell ⟨g,k,none⟩ (.slice p n c)).setCell ⟨g,j,none⟩ (.bool true)):=by
 have h1:=fin_l8 hn H hb hx hk hf
 have h2:=h1.1.putB j true hj hg
 exact ⟨h2.1,h1.2.trans h2.2⟩
theorem cwlist8_any (nm:Str) (so st ne:Int) (p:Option Addr) (c:Nat) (l:List Int) (B g:Nat) (D:SeD) (w:World) (h:SeB B g w D) (hn:isB nm) (hl:Ints .i64 w p c l) (hs:l.length ≤ 4096) (hB:B ≤ w.heap.size) :
  Calls Tryz.prog 169 #[.agg #[strV nm,.int .i64 so,.int .i64 st,.int .i64 ne],.pointer (some ⟨g,0,none⟩),.slice p l.length c] w fun e w' => e = .returned (.tuple #[]) ∧ SeB B g w' (updL D (wlL nm l)) ∧ Stay g w w':=by
 obtain ⟨i1,hi1,y1,z1,b1⟩:=info_parts Tryz.info8int
 have A1:=hide hl.ls
 have WF:=hide hl.2.2.1
 have H:=hide h
 have HN:=hide hn
 have hg:=h.lt
 obtain ⟨E,hE⟩:∃ E,updL D (wlL nm l) = E:=⟨_,rfl⟩
 rw [hE]
 have HE:=hide hE
 clear hl h hn hE
 unfold strV
 obtain ⟨w0,hw0⟩:∃ w0,w0 = w.alloc (.cells #[.string (strOfNums nm),.int .i64 so,.int .i64 st,.int .i64 ne] 180):=⟨_,rfl⟩
 have X0:Hid (Box w0 w.heap.size #[.string (strOfNums nm),.int .i64 so,.int .i64 st,.int .i64 ne] 180):=hide (by rw [hw0]; exact Box.new _ _ _)
 have B0:Hid (Below w.heap.size w w0):=hide (by rw [hw0]; exact al1p _ _)
 have Z0:w0.heap.size = w.heap.size + 1:=by rw [hw0]; simp
 go_enter Tryz.func169,Tryz.ntmps169
 go_wp2_with (at_make; (rw [← hw0]; refine wpList_make_full _ rfl _ _ 30 rfl w0.heap.size 3 i1 (.int .i64 0) 1 Tryz.underlying30 hi1 y1 z1 _ _ _ _ l.length rfl rfl (by omega) (by omega) (by rw [b1]; omega) (by unfold maxLen; omega) (Nat.le_refl _) ?_; intro w1 hown hgrow; have HM:=hide (Mrow.made i64Wd (0:Int) rfl hown); have HB:=hide ((Below.refl w0.heap.size w0).grown hgrow (Nat.le_refl _) (fun k hk => by cases hk)); clear hown hgrow))
 clear hw0
 rw [Z0] at HM
 go_loopw [14] (fun iv wr => ∃ n:Nat,iv = .int .i64 n ∧ n ≤ l.length ∧ Hid (Mrow 3 i64c wr (w.heap.size + 1) ((l.take n).map id ++ List.replicate (l.length - n) 0)) ∧ Hid (Below w0.heap.size w0 wr)) (fun iv _ => l.length - (intOf iv).toNat)
 case atStart => exact ⟨0,rfl,by omega,hide (by rw [List.take_zero,List.map_nil,List.nil_append]; exact uh HM),HB⟩
 case round =>
  obtain ⟨n,rfl,hn,M,BB⟩:=hrel
  by_cases hlt:n < l.length
  ·have hi:(n:Int) < (l.length:Int):=by omega
   obtain ⟨b,o,rfl,hb,hc⟩:=((uh A1).below (bl_tr (uh B0) (uh BB))).lies (by omega)
   have k1:wr.cell? ⟨b,o + n,none⟩ = some (.int .i64 (l.getD n 0)):=hc n hlt
   obtain ⟨m,hm⟩:∃ m,l.length - n = m + 1:=⟨l.length - n - 1,by omega⟩
   rw [hm] at M
   have tl:((l.take n).map id).length = n:=by rw [List.length_map,List.length_take]; omega
   have hl:((l.take n).map id ++ List.replicate (m + 1) (0:Int)).length = l.length:=by rw [List.length_append,tl,List.length_replicate]; omega
   have M2:=hide (Mrow.set i64Wd (uh M) (id (l.getD n 0)) (i:=n) (by omega))
   have e1:((l.take n).map id ++ List.replicate (m + 1) (0:Int)).set n (id (l.getD n 0)) = (l.take (n + 1)).map id ++ List.replicate m 0:=by
    have:=set_mid ((l.take n).map id) m (0:Int) (id (l.getD n 0))
    rw [tl] at this
    rw [this,map_take7 id 0 l n hlt]
   rw [e1,Nat.mul_one] at M2
   have c1:wr.cell? ⟨w.heap.size + 1,n,none⟩ = some (.int .i64 (((l.take n).map id ++ List.replicate (m + 1) (0:Int)).getD n 0)):=by
    have:=Mrow.at i64Wd (z:=(0:Int)) (uh M) (i:=n) (j:=0) (by omega) rfl
    simpa using this
   have f1:=(uh M).frozen n
   have hs1:w.heap.size + 1 < wr.heap.size:=lt_of_block (uh M)
   generalize ((l.take n).map id ++ List.replicate (m + 1) (0:Int)).getD n 0 = c0 at c1
   have BB2:=hide (setMany_below (i64c (id (l.getD n 0))) wr (w.heap.size + 1) n (uh BB) (by omega))
   generalize l.getD n 0 = x at k1 M2 BB2
   simp only [id] at M2 BB2
   clear e1 hl M hc tl HE
   go_wp2_with fail
   go_roundw
   case rel => exact ⟨n + 1,by go_num,by omega,by rw [show l.length - (n + 1) = m by omega]; exact M2,BB2⟩
   case measure => simp [intOf]; omega
  ·have hi:¬ (n:Int) < (l.length:Int):=by omega
   rw [List.take_of_length_le (by omega),show l.length - n = 0 by omega,List.replicate_zero,List.append_nil,List.map_id] at M
   have OW:Hid (OwL .i64 B g wr (some ⟨w.heap.size + 1,0,none⟩) l.length l):=hide (by
    have o1:=(own_i64 (Mrow.own i64Wd (uh M) (by omega:w0.heap.size ≤ w.heap.size + 1) (by unfold maxLen; omega) (uh BB))).form
    obtain ⟨q,d,e,hL,hF⟩:=o1
    simp only [Value.slice.injEq] at e
    obtain ⟨e1,_,e3⟩:=e
    rw [← e1,← e3] at hL
    rw [← e1] at hF
    exact ⟨hL.ints (uh WF),fun b o e hp => have k:=hF b o e hp; ⟨by omega,by omega,k.2⟩⟩)
   have B2:=hide (bl_tr (uh B0) (uh BB))
   have X2:=((uh X0).below (uh BB)).cell
   have xl:=((uh X0).below (uh BB)).lt
   clear M BB X0 A1
   by_cases d0:nm = [112,101,114,109]
   ·have e:wlL nm l = [(7,FV.l l),(8,FV.b true)]:=by unfold wlL; rw [if_pos d0]
    rw [e] at HE
    have n0:((strOfNums nm).toList == [112,101,114,109]) = true:=lit_yes8 (uh HN) [112,101,114,109] rfl _ rfl d0
    have hS:=(uh H).stay (uh B2)
    obtain ⟨⟨v7,c7⟩,f7⟩:=hS.facts 7 (by decide)
    obtain ⟨⟨v8,c8⟩,f8⟩:=hS.facts 8 (by decide)
    have hgl:=hS.lt
    clear hS e d0 
    go_wp2_with fail
    go_end0
    refine ⟨rfl,?_⟩
    rw [← uh HE]
    exact fin_m8 (by simp) (uh H) (uh B2) (uh OW) (by decide) rfl (by decide) rfl
   have n0:((strOfNums nm).toList == [112,101,114,109]) = false:=lit_no8 (uh HN) [112,101,114,109] rfl _ rfl d0
   by_cases d1:nm = [97,120,101,115]
   ·have e:wlL nm l = [(1,FV.l l),(2,FV.b true)]:=by unfold wlL; rw [if_neg d0,if_pos d1]
    rw [e] at HE
    have n1:((strOfNums nm).toList == [97,120,101,115]) = true:=lit_yes8 (uh HN) [97,120,101,115] rfl _ rfl d1
    have hS:=(uh H).stay (uh B2)
    obtain ⟨⟨v1,c1⟩,f1⟩:=hS.facts 1 (by decide)
    obtain ⟨⟨v2,c2⟩,f2⟩:=hS.facts 2 (by decide)
    have hgl:=hS.lt
    clear hS e d1 d0
    go_wp2_with fail
    go_end0
    refine ⟨rfl,?_⟩
    rw [← uh HE]
    exact fin_m8 (by simp) (uh H) (uh B2) (uh OW) (by decide) rfl (by decide) rfl
   have n1:((strOfNums nm).toList == [97,120,101,115]) = false:=lit_no8 (uh HN) [97,120,101,115] rfl _ rfl d1
   by_cases d2:nm = [100,105,108,97,116,105,111,110,115]
   ·have e:wlL nm l = [(23,FV.l l)]:=by unfold wlL; rw [if_neg d0,if_neg d1,if_pos d2]
    rw [e] at HE
    have n2:((strOfNums nm).toList == [100,105,108,97,116,105,111,110,115]) = true:=lit_yes8 (uh HN) [100,105,108,97,116,105,111,110,115] rfl _ rfl d2
    have hS:=(uh H).stay (uh B2)
    obtain ⟨⟨v23,c23⟩,f23⟩:=hS.facts 23 (by decide)
    have hgl:=hS.lt
    clear hS e d2 d0 d1
    go_wp2_with fail
    go_end0
    refine ⟨rfl,?_⟩
    rw [← uh HE]
    exact fin_l8 (by simp) (uh H) (uh B2) (uh OW) (by decide) rfl
   have n2:((strOfNums nm).toList == [100,105,108,97,116,105,111,110,115]) = false:=lit_no8 (uh HN) [100,105,108,97,116,105,111,110,115] rfl _ rfl d2
   by_cases d3:nm = [107,101,114,110,101,108,95,115,104,97,112,101]
   ·have e:wlL nm l = [(20,FV.l l)]:=by unfold wlL; rw [if_neg d0,if_neg d1,if_neg d2,if_pos d3]
    rw [e] at HE
    have n3:((strOfNums nm).toList == [107,101,114,110,101,108,95,115,104,97,112,101]) = true:=lit_yes8 (uh HN) [107,101,114,110,101,108,95,115,104,97,112,101] rfl _ rfl d3
    have hS:=(uh H).stay (uh B2)
    obtain ⟨⟨v20,c20⟩,f20⟩:=hS.facts 20 (by decide)
    have hgl:=hS.lt
    clear hS e d3 d0 d1 d2
    go_wp2_with fail
    go_end0
    refine ⟨rfl,?_⟩
    rw [← uh HE]
    exact fin_l8 (by simp) (uh H) (uh B2) (uh OW) (by decide) rfl
   have n3:((strOfNums nm).toList == [107,101,114,110,101,108,95,115,104,97,112,101]) = false:=lit_no8 (uh HN) [107,101,114,110,101,108,95,115,104,97,112,101] rfl _ rfl d3
   by_cases d4:nm = [112,97,100,115]
   ·have e:wlL nm l = [(22,FV.l l)]:=by unfold wlL; rw [if_neg d0,if_neg d1,if_neg d2,if_neg d3,if_pos d4]
    rw [e] at HE
    have n4:((strOfNums nm).toList == [112,97,100,115]) = true:=lit_yes8 (uh HN) [112,97,100,115] rfl _ rfl d4
    have hS:=(uh H).stay (uh B2)
    obtain ⟨⟨v22,c22⟩,f22⟩:=hS.facts 22 (by decide)
    have hgl:=hS.lt
    clear hS e d4 d0 d1 d2 d3
    go_wp2_with fail
    go_end0
    refine ⟨rfl,?_⟩
    rw [← uh HE]
    exact fin_l8 (by simp) (uh H) (uh B2) (uh OW) (by decide) rfl
   have n4:((strOfNums nm).toList == [112,97,100,115]) = false:=lit_no8 (uh HN) [112,97,100,115] rfl _ rfl d4
   by_cases d5:nm = [115,116,114,105,100,101,115]
   ·have e:wlL nm l = [(21,FV.l l)]:=by unfold wlL; rw [if_neg d0,if_neg d1,if_neg d2,if_neg d3,if_neg d4,if_pos d5]
    rw [e] at HE
    have n5:((strOfNums nm).toList == [115,116,114,105,100,101,115]) = true:=lit_yes8 (uh HN) [115,116,114,105,100,101,115] rfl _ rfl d5
    have hS:=(uh H).stay (uh B2)
    obtain ⟨⟨v21,c21⟩,f21⟩:=hS.facts 21 (by decide)
    have hgl:=hS.lt
    clear hS e d5 d0 d1 d2 d3 d4
    go_wp2_with fail
    go_end0
    refine ⟨rfl,?_⟩
    rw [← uh HE]
    exact fin_l8 (by simp) (uh H) (uh B2) (uh OW) (by decide) rfl
   have n5:((strOfNums nm).toList == [115,116,114,105,100,101,115]) = false:=lit_no8 (uh HN) [115,116,114,105,100,101,115] rfl _ rfl d5
   have e:wlL nm l = []:=by unfold wlL; rw [if_neg d0,if_neg d1,if_neg d2,if_neg d3,if_neg d4,if_neg d5]
   rw [e] at HE
   clear d0 d1 d2 d3 d4 d5 e
   go_wp2_with fail
   go_end0
   refine ⟨rfl,?_⟩
   rw [← uh HE]
   exact ⟨(uh H).stay (uh B2),Stay.below (uh B2) (Nat.le_of_lt hg)⟩
end Go.Proofs.YtbmmcbagdomonaaGreat
