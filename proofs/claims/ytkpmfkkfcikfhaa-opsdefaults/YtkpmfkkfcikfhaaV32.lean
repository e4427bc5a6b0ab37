import Derived.Lib.SliceRun
import Derived.Deep.RegionHeld3
import Derived.Test.YtkpmfkkfcikfhaaV31
set_option maxRecDepth 100000
set_option maxHeartbeats 8000000
namespace Go.Proofs.Ytkpmfkkfcikfhaa
open Go.RowKit
set_option linter.unusedVariables false
set_option linter.unusedSimpArgs false
theorem OwnG.empty8 {α:Type} {f:α → Value} (t:TypeId) (w:World):OwnG t f w (w.alloc (.cells #[] t)) (.slice (some ⟨w.heap.size,0,none⟩) 0 0) []:=by
 refine ⟨⟨rfl,.inr ⟨w.heap.size,0,#[],rfl,Nat.le_refl _,heap_alloc_new w _,Nat.le_refl _,by decide,rfl,rfl⟩⟩,al1p w _⟩
theorem bdrew8 (w:World):Below w.heap.size w w.drew:=Below.drew (Below.refl _ _)
theorem Try.info8int:(Try.prog.info? 3).map (fun i => (i.zero,i.size,i.bytes)) = some (some (.int .i64 0),1,8):=by kernel_rfl
theorem cclone_int (p:Option Addr) (c:Nat) (xs:List Int) (w:World) (h:Ls (Value.int .i64) w p c xs) (hs:xs.length * 8 ≤ 140737488355328) :
  Calls Try.prog 68 #[.slice p xs.length c] w fun e w' => (∃ q d,e = .returned (.slice q xs.length d) ∧ Ls (Value.int .i64) w' q d xs ∧ Fresh w.heap.size w' q xs.length) ∧ Below w.heap.size w w':=by
 obtain ⟨i1,hi1,y1,z1,b1⟩:=info_parts Try.info8int
 have A1:=hide h
 have hnil:=fun (w:World) (a:Option Addr) (n c:Nat) => Go.Lib.run_eql_slice_nil (P:=Try.prog) w 37 3 a n c 0 0 Try.underlying37
 cases p with
 | none =>
   have hc0:c = 0:=h.2.2.2 rfl
   have hx0:xs = []:=List.eq_nil_of_length_eq_zero (by have:=h.1; omega)
   subst hc0 hx0
   clear h
   go_enter Try.func68,Try.ntmps68
   go_wp2_with fail
   go_ret
   exact ⟨⟨none,0,rfl,Ls.nil _,Fresh.nil _ _⟩,Below.refl _ _⟩
 | some ad =>
   clear h
   have hs2:xs.length ≤ 140737488355328:=by omega
   go_enter Try.func68,Try.ntmps68
   go_wp2_with (at_builtin; (refine wpList_append_ls rfl _ _ 37 rfl w 3 i1 (.int .i64 0) 8 Try.underlying37 hi1 y1 z1 b1 rfl (int_one .i64) _ [] rfl (OwnG.empty8 _ _) (some ad) c xs rfl ((uh A1).below (al1p _ _)) (by unfold maxLen; simp <;> omega) (by simp <;> omega) ?_; intro v2 w2 O2; obtain ⟨q,d,hq,hL,hF⟩:=O2.form; simp only [List.nil_append] at hq hL hF; have HL:=hide hL; have HF:=hide hF; have HB:=hide O2.2; subst hq; clear O2 hL hF))
   go_ret
   exact ⟨⟨q,d,rfl,uh HL,uh HF⟩,uh HB⟩
theorem Try.info8u32:(Try.prog.info? 38).map (fun i => (i.zero,i.size,i.bytes)) = some (some (.int .u32 0),1,4):=by kernel_rfl
theorem cclone_u32 (p:Option Addr) (c:Nat) (xs:List Int) (w:World) (h:Ls (Value.int .u32) w p c xs) (hs:xs.length * 4 ≤ 140737488355328) :
  Calls Try.prog 57 #[.slice p xs.length c] w fun e w' => (∃ q d,e = .returned (.slice q xs.length d) ∧ Ls (Value.int .u32) w' q d xs ∧ Fresh w.heap.size w' q xs.length) ∧ Below w.heap.size w w':=by
 obtain ⟨i1,hi1,y1,z1,b1⟩:=info_parts Try.info8u32
 have A1:=hide h
 have hnil:=fun (w:World) (a:Option Addr) (n c:Nat) => Go.Lib.run_eql_slice_nil (P:=Try.prog) w 39 38 a n c 0 0 Try.underlying39
 cases p with
 | none =>
   have hc0:c = 0:=h.2.2.2 rfl
   have hx0:xs = []:=List.eq_nil_of_length_eq_zero (by have:=h.1; omega)
   subst hc0 hx0
   clear h
   go_enter Try.func57,Try.ntmps57
   go_wp2_with fail
   go_ret
   exact ⟨⟨none,0,rfl,Ls.nil _,Fresh.nil _ _⟩,Below.refl _ _⟩
 | some ad =>
   clear h
   have hs2:xs.length ≤ 140737488355328:=by omega
   go_enter Try.func57,Try.ntmps57
   go_wp2_with (at_builtin; (refine wpList_append_ls rfl _ _ 39 rfl w 38 i1 (.int .u32 0) 4 Try.underlying39 hi1 y1 z1 b1 rfl (int_one .u32) _ [] rfl (OwnG.empty8 _ _) (some ad) c xs rfl ((uh A1).below (al1p _ _)) (by unfold maxLen; simp <;> omega) (by simp <;> omega) ?_; intro v2 w2 O2; obtain ⟨q,d,hq,hL,hF⟩:=O2.form; simp only [List.nil_append] at hq hL hF; have HL:=hide hL; have HF:=hide hF; have HB:=hide O2.2; subst hq; clear O2 hL hF))
   go_ret
   exact ⟨⟨q,d,rfl,uh HL,uh HF⟩,uh HB⟩
theorem Try.info8i64:(Try.prog.info? 2).map (fun i => (i.zero,i.size,i.bytes)) = some (some (.int .i64 0),1,8):=by kernel_rfl
theorem cclone_i64 (p:Option Addr) (c:Nat) (xs:List Int) (w:World) (h:Ls (Value.int .i64) w p c xs) (hs:xs.length * 8 ≤ 140737488355328) :
  Calls Try.prog 58 #[.slice p xs.length c] w fun e w' => (∃ q d,e = .returned (.slice q xs.length d) ∧ Ls (Value.int .i64) w' q d xs ∧ Fresh w.heap.size w' q xs.length) ∧ Below w.heap.size w w':=by
 obtain ⟨i1,hi1,y1,z1,b1⟩:=info_parts Try.info8i64
 have A1:=hide h
 have hnil:=fun (w:World) (a:Option Addr) (n c:Nat) => Go.Lib.run_eql_slice_nil (P:=Try.prog) w 40 2 a n c 0 0 Try.underlying40
 cases p with
 | none =>
   have hc0:c = 0:=h.2.2.2 rfl
   have hx0:xs = []:=List.eq_nil_of_length_eq_zero (by have:=h.1; omega)
   subst hc0 hx0
   clear h
   go_enter Try.func58,Try.ntmps58
   go_wp2_with fail
   go_ret
   exact ⟨⟨none,0,rfl,Ls.nil _,Fresh.nil _ _⟩,Below.refl _ _⟩
 | some ad =>
   clear h
   have hs2:xs.length ≤ 140737488355328:=by omega
   go_enter Try.func58,Try.ntmps58
   go_wp2_with (at_builtin; (refine wpList_append_ls rfl _ _ 40 rfl w 2 i1 (.int .i64 0) 8 Try.underlying40 hi1 y1 z1 b1 rfl (int_one .i64) _ [] rfl (OwnG.empty8 _ _) (some ad) c xs rfl ((uh A1).below (al1p _ _)) (by unfold maxLen; simp <;> omega) (by simp <;> omega) ?_; intro v2 w2 O2; obtain ⟨q,d,hq,hL,hF⟩:=O2.form; simp only [List.nil_append] at hq hL hF; have HL:=hide hL; have HF:=hide hF; have HB:=hide O2.2; subst hq; clear O2 hL hF))
   go_ret
   exact ⟨⟨q,d,rfl,uh HL,uh HF⟩,uh HB⟩
theorem Try.info8bool:(Try.prog.info? 4).map (fun i => (i.zero,i.size,i.bytes)) = some (some (.bool false),1,1):=by kernel_rfl
theorem cclone_bool (p:Option Addr) (c:Nat) (xs:List Bool) (w:World) (h:Ls (Value.bool) w p c xs) (hs:xs.length * 1 ≤ 140737488355328) :
  Calls Try.prog 69 #[.slice p xs.length c] w fun e w' => (∃ q d,e = .returned (.slice q xs.length d) ∧ Ls (Value.bool) w' q d xs ∧ Fresh w.heap.size w' q xs.length) ∧ Below w.heap.size w w':=by
 obtain ⟨i1,hi1,y1,z1,b1⟩:=info_parts Try.info8bool
 have A1:=hide h
 have hnil:=fun (w:World) (a:Option Addr) (n c:Nat) => Go.Lib.run_eql_slice_nil (P:=Try.prog) w 41 4 a n c 0 0 Try.underlying41
 cases p with
 | none =>
   have hc0:c = 0:=h.2.2.2 rfl
   have hx0:xs = []:=List.eq_nil_of_length_eq_zero (by have:=h.1; omega)
   subst hc0 hx0
   clear h
   go_enter Try.func69,Try.ntmps69
   go_wp2_with fail
   go_ret
   exact ⟨⟨none,0,rfl,Ls.nil _,Fresh.nil _ _⟩,Below.refl _ _⟩
 | some ad =>
   clear h
   have hs2:xs.length ≤ 140737488355328:=by omega
   go_enter Try.func69,Try.ntmps69
   go_wp2_with (at_builtin; (refine wpList_append_ls rfl _ _ 41 rfl w 4 i1 (.bool false) 1 Try.underlying41 hi1 y1 z1 b1 rfl (bool_one) _ [] rfl (OwnG.empty8 _ _) (some ad) c xs rfl ((uh A1).below (al1p _ _)) (by unfold maxLen; simp <;> omega) (by simp <;> omega) ?_; intro v2 w2 O2; obtain ⟨q,d,hq,hL,hF⟩:=O2.form; simp only [List.nil_append] at hq hL hF; have HL:=hide hL; have HF:=hide hF; have HB:=hide O2.2; subst hq; clear O2 hL hF))
   go_ret
   exact ⟨⟨q,d,rfl,uh HL,uh HF⟩,uh HB⟩
def TenF (B:Nat) (w:World) (T:Ten) (A:TA):Prop:=TenIn w T A ∧ Fresh B w A.pd T.2.1.length ∧ Fresh B w A.pf T.2.2.1.length ∧ Fresh B w A.pi T.2.2.2.1.length ∧ Fresh B w A.pb T.2.2.2.2.length
theorem TenF.own {B B0 g:Nat} {w:World} {T:Ten} {A:TA} (h:TenF B w T A) (hB:B0 ≤ B) (hg:g + 1 < B):TenO B0 g w T A :=
 ⟨h.1.1,⟨h.1.2.1,fun b o e hp => have k:=h.2.1 b o e hp; ⟨by omega,by omega,k.2⟩⟩,⟨h.1.2.2.1,fun b o e hp => have k:=h.2.2.1 b o e hp; ⟨by omega,by omega,k.2⟩⟩,⟨h.1.2.2.2.1,fun b o e hp => have k:=h.2.2.2.1 b o e hp; ⟨by omega,by omega,k.2⟩⟩,⟨h.1.2.2.2.2,fun b o e hp => have k:=h.2.2.2.2 b o e hp; ⟨by omega,by omega,k.2⟩⟩⟩
theorem TenO.stay1 {B g:Nat} {w w':World} {T:Ten} {A:TA} (h:TenO B g w T A) (hs:Stay (g + 1) w w'):TenO B g w' T A:=⟨h.1,h.2.1.stay1 hs,h.2.2.1.stay1 hs,h.2.2.2.1.stay1 hs,h.2.2.2.2.stay1 hs⟩
theorem TenO.fresh {B g:Nat} {w:World} {T:Ten} {A:TA} (h:TenO B g w T A):TenF B w T A :=
 ⟨h.inn,fun b o e hp => have k:=h.2.1.2 b o e hp; ⟨k.1,k.2.2⟩,fun b o e hp => have k:=h.2.2.1.2 b o e hp; ⟨k.1,k.2.2⟩,fun b o e hp => have k:=h.2.2.2.1.2 b o e hp; ⟨k.1,k.2.2⟩,fun b o e hp => have k:=h.2.2.2.2.2 b o e hp; ⟨k.1,k.2.2⟩⟩
def okT8 (T:Ten):Prop:=T.2.1.length * 8 ≤ 140737488355328 ∧ T.2.2.1.length * 4 ≤ 140737488355328 ∧ T.2.2.2.1.length * 8 ≤ 140737488355328 ∧ T.2.2.2.2.length ≤ 140737488355328
theorem Stay.set5 {g:Nat} {w:World} (v0 v1 v2 v3 v4:Value) (a b c d e:Nat):Stay g w (((((w.setCell ⟨g,a,none⟩ v0).setCell ⟨g,b,none⟩ v1).setCell ⟨g,c,none⟩ v2).setCell ⟨g,d,none⟩ v3).setCell ⟨g,e,none⟩ v4) :=
 (((((Stay.set8 v0).trans (Stay.set8 v1)).trans (Stay.set8 v2)).trans (Stay.set8 v3)).trans (Stay.set8 v4))
theorem ccopied8_any (T:Ten) (A:TA) (w:World) (h:TenIn w T A) (hs:okT8 T) :
  Calls Try.prog 56 #[tenV T A] w fun e w' => (∃ C,e = .returned (tenV T C) ∧ TenF w.heap.size w' T C) ∧ Below w.heap.size w w':=by
 obtain ⟨ty,ds,fs,is,bs⟩:=T
 obtain ⟨pd,cd,pf,cf,pi,ci,pb,cb⟩:=A
 obtain ⟨a0,a1,a2,a3,a4⟩:=h
 obtain ⟨s1,s2,s3,s4⟩:=hs
 simp only at a0 a1 a2 a3 a4 s1 s2 s3 s4
 unfold tenV tenCells
 simp only
 have wfd:=hide a1.2.2.1
 have wff:=hide a2.2.2.1
 have wfi:=hide a3.2.2.1
 have C1:=hide (fun v (hv:Below w.heap.size w v) => cclone_int pd cd ds v (a1.below hv).ls s1)
 have C2:=hide (fun v (hv:Below w.heap.size w v) => cclone_u32 pf cf fs v (a2.below hv).ls s2)
 have C3:=hide (fun v (hv:Below w.heap.size w v) => cclone_i64 pi ci is v (a3.below hv).ls s3)
 have C4:=hide (fun v (hv:Below w.heap.size w v) => cclone_bool pb cb bs v (a4.below hv) (by omega))
 clear a1 a2 a3 a4 s1 s2 s3 s4
 go_enter Try.func56,Try.ntmps56
 go_wp2_with fail
 obtain ⟨v0,hv0⟩:∃ v0,v0 = ((w.alloc (Obj.cells #[.int .i64 ty,.slice pd ds.length cd,.slice pf fs.length cf,.slice pi is.length ci,.slice pb bs.length cb] 43)).alloc (Obj.cells #[.int .i64 0,.slice none 0 0,.slice none 0 0,.slice none 0 0,.slice none 0 0] 43)):=⟨_,rfl⟩
 have X0:Hid (Box v0 w.heap.size #[.int .i64 ty,.slice pd ds.length cd,.slice pf fs.length cf,.slice pi is.length ci,.slice pb bs.length cb] 43):=hide (by rw [hv0]; exact Box.alloc (Box.new w _ _) _)
 have R0:Hid (Box v0 (w.heap.size + 1) #[.int .i64 0,.slice none 0 0,.slice none 0 0,.slice none 0 0,.slice none 0 0] 43):=hide (by rw [hv0]; have:=Box.new (w.alloc (Obj.cells #[.int .i64 ty,.slice pd ds.length cd,.slice pf fs.length cf,.slice pi is.length ci,.slice pb bs.length cb] 43)) #[.int .i64 0,.slice none 0 0,.slice none 0 0,.slice none 0 0,.slice none 0 0] 43; simp at this; exact this)
 have B0:Hid (Below w.heap.size w v0):=hide (by rw [hv0]; exact bl_tr (al1p _ _) (al1p _ _))
 have Z0:Hid (v0.heap.size = w.heap.size + 2):=hide (by rw [hv0]; simp)
 rw [← hv0]
 clear hv0
 have x0:=(uh X0).cell
 have x0':=((uh X0).below (bdrew8 _)).cell
 go_region_held3 (fun w' => (∀ j,w'.cell? ⟨w.heap.size,j,none⟩ = (#[.int .i64 ty,.slice pd ds.length cd,.slice pf fs.length cf,.slice pi is.length ci,.slice pb bs.length cb]:Array Value)[j]?)) (first | with_reducible assumption | with_reducible exact uh S4 _ _ _ _ _)
  (first
   | (go_at_call 69; (refine (uh C4 _ (uh B3)).mono ?_; rintro e w4 ⟨⟨q4,d4,rfl,L4,F4⟩,hb⟩; have HL4:=hide L4; have HF4:=hide F4; have X4:=hide ((uh X3).below (hb)); have R4:=hide ((uh R3).below (hb)); have B4:=hide (bl_tr (uh B3) (hb)); have M4:=hide hb; clear x3 L4 F4; have x4:=(uh X4).cell; have r4:=(uh R4).cell; have f4:=(uh R4).frozen; have S4:=hide (fun u0 u1 u2 u3 u4 => ((uh X4).off5 (by omega:w.heap.size ≠ w.heap.size + 1) u0 u1 u2 u3 u4).cell); have l4:=(uh R4).lt; clear hb))
   | (go_at_call 58; (refine (uh C3 _ (uh B2)).mono ?_; rintro e w3 ⟨⟨q3,d3,rfl,L3,F3⟩,hb⟩; have HL3:=hide L3; have HF3:=hide F3; have X3:=hide ((uh X2).below (hb)); have R3:=hide ((uh R2).below (hb)); have B3:=hide (bl_tr (uh B2) (hb)); have M3:=hide hb; clear x2 L3 F3; have x3:=(uh X3).cell; clear hb))
   | (go_at_call 57; (refine (uh C2 _ (uh B1)).mono ?_; rintro e w2 ⟨⟨q2,d2,rfl,L2,F2⟩,hb⟩; have HL2:=hide L2; have HF2:=hide F2; have X2:=hide ((uh X1).below (hb)); have R2:=hide ((uh R1).below (hb)); have B2:=hide (bl_tr (uh B1) (hb)); have M2:=hide hb; clear x1 L2 F2; have x2:=(uh X2).cell; clear hb))
   | (go_at_call 68; (refine (uh C1 _ (bl_tr (uh B0) (bdrew8 _))).mono ?_; rintro e w1 ⟨⟨q1,d1,rfl,L1,F1⟩,hb⟩; have HL1:=hide L1; have HF1:=hide F1; have X1:=hide ((uh X0).below (bl_tr (bdrew8 _) hb)); have R1:=hide ((uh R0).below (bl_tr (bdrew8 _) hb)); have B1:=hide (bl_tr (uh B0) (bl_tr (bdrew8 _) hb)); have M1:=hide hb; clear x0 L1 F1; have x1:=(uh X1).cell; clear hb)))
 go_wp2_with fail
 have m2:=uh M2
 have m3:=uh M3
 have m4:=uh M4
 have l1:=uh HL1
 have l2:=uh HL2
 have l3:=uh HL3
 have l4:=uh HL4
 have g1:Fresh (w.heap.size + 2) w1 q1 ds.length:=(uh HF1).mono (by have:=uh Z0; simp; omega)
 have zz:w.heap.size + 2 ≤ w1.heap.size:=by have:=uh Z0; have:=(uh M1).size; simp at this; omega
 have g2:=uh HF2
 have g3:=uh HF3
 have g4:=uh HF4
 have z2:=m2.size
 have z3:=m3.size
 have z4:=m4.size
 have O4:TenF (w.heap.size + 2) w4 (ty,ds,fs,is,bs) ⟨q1,d1,q2,d2,q3,d3,q4,d4⟩ :=
  ⟨⟨a0,(((l1.below m2).below m3).below m4).ints (uh wfd),((l2.below m3).below m4).ints (uh wff),(l3.below m4).ints (uh wfi),l4⟩,
   ((g1.below l1 rfl m2).below (l1.below m2) rfl m3).below ((l1.below m2).below m3) rfl m4,((g2.below l2 rfl m3).below (l2.below m3) rfl m4).mono (by omega),(g3.below l3 rfl m4).mono (by omega),g4.mono (by omega)⟩
 have O5:=((O4.own (B0:=w.heap.size) (g:=w.heap.size) (by omega) (by omega)).stay1 (Stay.set5 (.int .i64 ty) (.slice q1 ds.length d1) (.slice q2 fs.length d2) (.slice q3 is.length d3) (.slice q4 bs.length d4) 0 1 2 3 4)).fresh
 refine bodyPost_ret (v:=.agg #[.int .i64 ty,.slice q1 ds.length d1,.slice q2 fs.length d2,.slice q3 is.length d3,.slice q4 bs.length d4]) (by simp [results,Try.results56,go_sem,((uh R4).set5 (.int .i64 ty) (.slice q1 ds.length d1) (.slice q2 fs.length d2) (.slice q3 is.length d3) (.slice q4 bs.length d4)).cell]) rfl ⟨⟨⟨q1,d1,q2,d2,q3,d3,q4,d4⟩,rfl,O5⟩,bset5 (uh B4) (by omega) _ _ _ _ _⟩
end Go.Proofs.Ytkpmfkkfcikfhaa
