import Derived.Maps.Own
import Derived.Maps.OwnOps
import Derived.Maps.OwnSet
import Derived.Test.YtbmmcbagdomonaaGreatV28
import Derived.Test.YtbmmcbagdomonaaGreatV36
set_option maxRecDepth 100000
set_option maxHeartbeats 40000000
namespace Go.Proofs.YtbmmcbagdomonaaGreat
open Go.RowKit
set_option linter.unusedVariables false
set_option linter.unusedSimpArgs false
open Go.Maps
theorem ccopi9_any (q:Option Addr) (c:Nat) (xs:List Int) (w:World) (h:Ints .i64 w q c xs) (hs:xs.length * 8 ≤ 140737488355328) :
  Calls Tryz.prog 44 #[.slice q xs.length c] w fun e w' => (∃ p d,e = .returned (.slice p xs.length d) ∧ Ints .i64 w' p d xs ∧ Fresh w.heap.size w' p xs.length) ∧ Below w.heap.size w w':=by
 obtain ⟨i1,hi1,y1,z1,b1⟩:=info_parts Tryz.info8int
 have H:=hide h
 have hlen:=h.ls.len
 clear h
 go_enter Tryz.func44,Tryz.ntmps44
 go_wp2_with (at_builtin; (refine wpList_append_ls (f:=Value.int .i64) rfl _ _ 30 rfl w 3 i1 (.int .i64 0) 8 Tryz.underlying30 hi1 y1 z1 b1 rfl (int_one .i64) (.slice none 0 0) [] rfl (OwnG.nil _ _ _ (Below.refl _ _)) q c xs rfl (uh H).ls (by unfold maxLen; simp; omega) (by simp; omega) ?_; intro v2 w2 O2; rw [List.nil_append] at O2; obtain ⟨p,d,rfl,hL,hF⟩:=O2.form; have HB:=hide O2.2; have HL:=hide hL; have HF:=hide hF; clear O2 hL hF))
 go_ret
 exact ⟨⟨p,d,rfl,(uh HL).ints (uh H).2.2.1,uh HF⟩,uh HB⟩
theorem cconst9_any (T:Ten) (A:TA) (w:World) (h:TenIn w T A) (hs:okLen T) :
  Calls Tryz.prog 55 #[tenV T A] w fun e w' => (∃ a:VgA,e = .returned (.agg (vgCells a).toArray) ∧ VgIn (fun b => w.heap.size ≤ b) w' a ∧ a.d = constG T) ∧ Below w.heap.size w w':=by
 have HC1:=hide (fun v (hv:Below w.heap.size w v) => ccopi9_any A.pd A.cd T.2.1 v ((h.below hv).2.1) hs.1)
 have HC2:=hide (fun v (hv:Below w.heap.size w v) => tcanon_any T A v (h.below hv) hs)
 have HWF:=hide h.1
 obtain ⟨CT,hCT⟩:∃ C,canonT T = C:=⟨_,rfl⟩
 have HG:Hid (constG T = (T.1,T.2.1,true,CT)):=hide (by rw [← hCT]; rfl)
 rw [hCT] at HC2
 clear hCT h hs
 obtain ⟨ty,ds,fs,is,bs⟩:=T
 obtain ⟨pd,cd,pf,cf,pi,ci,pb,cb⟩:=A
 unfold tenV tenCells at HC2 ⊢
 simp only at HC1 HC2 HG HWF ⊢
 obtain ⟨W,hW⟩:∃ W,(w.alloc (.cells #[.int .i64 ty,.slice pd ds.length cd,.slice pf fs.length cf,.slice pi is.length ci,.slice pb bs.length cb] 47)).alloc (.cells valZ 59) = W:=⟨_,rfl⟩
 have X:Hid (Box W w.heap.size #[.int .i64 ty,.slice pd ds.length cd,.slice pf fs.length cf,.slice pi is.length ci,.slice pb bs.length cb] 47):=hide (by rw [← hW]; exact (Box.new _ _ _).alloc _)
 have Y:Hid (Box W (w.heap.size + 1) #[.int .i64 0,.slice none 0 0,.bool false,.int .i64 0,.slice none 0 0,.slice none 0 0,.slice none 0 0,.slice none 0 0] 59):=hide (by rw [← hW]; have:=Box.new (w.alloc (.cells #[.int .i64 ty,.slice pd ds.length cd,.slice pf fs.length cf,.slice pi is.length ci,.slice pb bs.length cb] 47)) valZ 59; simp only [World.alloc_size9] at this; exact this)
 have BW:Hid (Below w.heap.size w W):=hide (by rw [← hW]; exact bl_tr (al1p _ _) (al1p _ _))
 have HSW:Hid (W.drew.heap.size = w.heap.size + 2):=hide (by rw [← hW]; simp)
 have x1:=(uh X).cell
 have x1d:=((uh X).below (bdrew8 _)).cell
 have y1:=(uh Y).cell
 go_enter Tryz.func55,Tryz.ntmps55
 go_wp2_with fail
 unfold valZ at hW
 rw [hW]
 clear hW
 have hne:w.heap.size ≠ w.heap.size + 1:=by omega
 have HSZ:Hid (W.drew.heap.size = w.heap.size + 2):=HSW
 go_region_held3 (fun v => (∀ j,v.cell? ⟨w.heap.size,j,none⟩ = (#[.int .i64 ty,.slice pd ds.length cd,.slice pf fs.length cf,.slice pi is.length ci,.slice pb bs.length cb]:Array Value)[j]?)) (with_reducible assumption)
  (first
   | (go_at_call 105; (refine (uh HC2 _ (uh N1)).mono ?_; rintro e w3 ⟨⟨C,rfl,hO⟩,hb⟩; have N2:=hide (bl_tr (uh N1) hb); have TO:=hide hO; have L2:=hide ((uh L1).below hb); have Y2:=hide ((uh Y1).below hb); have y2:=(uh Y2).cell; have z2:=(uh Y2).frozen; have yl:=(uh Y2).lt; have x2:=((uh X1).below hb).cell; have x4:=(Box.off8 ((uh X1).below hb) hne (.int .i64 ty) (.slice p ds.length d) (.bool true) (.int .i64 CT.1) (.slice C.pd CT.2.1.length C.cd) (.slice C.pf CT.2.2.1.length C.cf) (.slice C.pi CT.2.2.2.1.length C.ci) (.slice C.pb CT.2.2.2.2.length C.cb)).cell; clear hO hb))
   | (go_at_call 44; (refine (uh HC1 _ (bl_tr (uh BW) (bdrew8 _))).mono ?_; rintro e w2 ⟨⟨p,d,rfl,hL,hF⟩,hb⟩; have N1:=hide (bl_tr (bl_tr (uh BW) (bdrew8 _)) hb); have HS2:Hid (w.heap.size + 2 ≤ w2.heap.size):=hide (by (have:=hb.size; rw [uh HSZ] at this; exact this)); have L1:=hide hL; have X1:=hide (((uh X).below (bdrew8 _)).below hb); have Y1:=hide (((uh Y).below (bdrew8 _)).below hb); have x3:=(uh X1).cell; have F1:=hide hF; clear hL hF hb)))
 have hW2:Hid (W.drew.heap.size = w.heap.size + 2):=HSZ
 have Y3:=hide ((uh Y2).set8 (.int .i64 ty) (.slice p ds.length d) (.bool true) (.int .i64 CT.1) (.slice C.pd CT.2.1.length C.cd) (.slice C.pf CT.2.2.1.length C.cf) (.slice C.pi CT.2.2.2.1.length C.ci) (.slice C.pb CT.2.2.2.2.length C.cb))
 have S3:=hide (sset8 (Stay.refl (w.heap.size + 1) w3) (.int .i64 ty) (.slice p ds.length d) (.bool true) (.int .i64 CT.1) (.slice C.pd CT.2.1.length C.cd) (.slice C.pf CT.2.2.1.length C.cf) (.slice C.pi CT.2.2.2.1.length C.ci) (.slice C.pb CT.2.2.2.2.length C.cb))
 have B3:=hide (bset8 (uh N2) (Nat.le_succ w.heap.size) (.int .i64 ty) (.slice p ds.length d) (.bool true) (.int .i64 CT.1) (.slice C.pd CT.2.1.length C.cd) (.slice C.pf CT.2.2.1.length C.cf) (.slice C.pi CT.2.2.2.1.length C.ci) (.slice C.pb CT.2.2.2.2.length C.cb))
 have HD:Hid (Hold (fun b => w.heap.size + 2 ≤ b) w3 _):=hide (Hold.stay (uh S3) (by show ¬ w.heap.size + 2 ≤ w.heap.size + 1; omega))
 have I1:Hid (VgIn (fun b => w.heap.size ≤ b) _ ⟨ty,ds,p,d,true,CT,C⟩):=hide (vgP.mono (OK:=fun b => w.heap.size + 2 ≤ b) (vgP.hold (x:=⟨ty,ds,p,d,true,CT,C⟩) ⟨uh HWF,⟨uh L2,fun b o e hp => by have:=(uh F1 b o e hp).1; rw [uh hW2] at this; exact this⟩,(uh TO).tenL.mono (fun b hb _ => by have:=uh HS2; omega)⟩ (uh HD)) (fun b hb _ => by show w.heap.size ≤ b; have:w.heap.size + 2 ≤ b:=hb; omega))
 go_wp2_with fail
 refine bodyPost_ret ?_ rfl ⟨⟨_,rfl,uh I1,(uh HG).symm⟩,uh B3⟩
 simp [results,Tryz.results55,go_sem,(uh Y3).cell,vgCells]
theorem law9:Keyed Tryz.prog 9:=string_keyed Tryz.underlying9
theorem zeroE9 (w:World):(zeroValue 3).run Tryz.prog w = .ok (.int .i64 0) w:=by kernel_rfl
def keyN (s:Str):Lit:=.string (strOfNums s).data.toList
theorem keyN_of {s:Str} (h:s.length ≤ maxLen):keyOf Tryz.prog 9 (strV s) = some (keyN s):=Go.WideMaps.keyOf_string_mk Tryz.underlying9 (by rw [str_len]; exact h)
theorem keyN_ne {a b:Str} (ha:isB a) (hb:isB b) (h:a ≠ b):keyN a ≠ keyN b:=by
 intro e
 refine h (str_inj ha hb ?_)
 unfold keyN at e
 injection e with e1
 have:(strOfNums a).data = (strOfNums b).data:=Array.toList_inj.1 e1
 cases h1:strOfNums a
 cases h2:strOfNums b
 rw [h1,h2] at this
 simp only at this
 rw [this]
theorem keyN_ok (s:Str):WideAt.IsKeyLit (keyN s):=trivial
structure MapD (D:DataW Unit) (L:List Str):Prop where
 has:∀ s,isB s → Maps.has D (keyN s) = decide (0 ≤ findG L s)
 at':∀ s,isB s → 0 ≤ findG L s → D.atKey (keyN s) (.lit (.int .i64 0)) = .lit (.int .i64 (findG L s))
 size:Maps.size D = L.length
 tidy:Tidy D
theorem MapD.nil:MapD (.map []) []:=⟨fun s _ => rfl,fun s _ h => absurd h (by unfold findG idxI; omega),rfl,tidy_empty⟩
theorem findG_new {L:List Str} {s:Str} (h:findG L s < 0):findG (L ++ [s]) s = L.length:=findG_at h
theorem findG_other {L:List Str} {s t:Str} (h:t ≠ s):findG (L ++ [t]) s = findG L s:=by
 by_cases g:0 ≤ findG L s
 ·exact findG_pre g
 ·have h1:¬ s ∈ L:=findG_no.1 (by omega)
  have h2:findG (L ++ [t]) s < 0:=findG_no.2 (by
   rw [List.mem_append,List.mem_singleton]
   rintro (e | e)
   ·exact h1 e
   ·exact h e.symm)
  have:=findG_ge L s
  have:=findG_ge (L ++ [t]) s
  omega
theorem MapD.put {D:DataW Unit} {L:List Str} (h:MapD D L) {s:Str} (hs:isB s) (hn:findG L s < 0):MapD (D.put (keyN s) (.lit (.int .i64 L.length))) (L ++ [s]):=by
 obtain ⟨es,hD,_⟩:=h.tidy
 refine ⟨fun t ht => ?_,fun t ht h0 => ?_,?_,h.tidy.put (keyN_ok s) _⟩
 ·by_cases e:s = t
  ·subst e
   rw [has_put_same ⟨es,hD⟩ (keyN_ok s),findG_new hn]
   simp
  ·rw [has_put_other (keyN_ne ht hs (fun x => e x.symm)),findG_other e]
   exact h.has t ht
 ·by_cases e:s = t
  ·subst e
   rw [atKey_put_same ⟨es,hD⟩ (keyN_ok s),findG_new hn]
  ·rw [findG_other e] at h0 ⊢
   rw [atKey_put_other (keyN_ne ht hs (fun x => e x.symm))]
   exact h.at' t ht h0
 ·rw [size_put h.tidy,h.has s hs,decide_eq_false (by omega),h.size,List.length_append]
  rfl
def NM (w:World) (mb:Nat) (L:List Str):Prop:=∃ D:DataW Unit,w.ownsMap Tryz.prog 9 (plainElem Tryz.prog 3) mb L.length D ∧ MapD D L
theorem NM.lt {w:World} {mb:Nat} {L:List Str} (h:NM w mb L):mb < w.heap.size:=by
 obtain ⟨D,⟨es,cl,hh,_⟩,_⟩:=h
 exact lt_of_block hh
theorem NM.block {w w':World} {mb:Nat} {L:List Str} (h:NM w mb L) (hb:w'.heap[mb]? = w.heap[mb]?):NM w' mb L:=by
 obtain ⟨D,⟨es,cl,hh,h2⟩,h3⟩:=h
 exact ⟨D,⟨es,cl,hb.trans hh,h2⟩,h3⟩
theorem NM.below {w w':World} {mb:Nat} {L:List Str} (h:NM w mb L) (hb:Below w.heap.size w w'):NM w' mb L:=h.block (hb.block mb h.lt)
theorem NM.stay {w w':World} {g mb:Nat} {L:List Str} (h:NM w mb L) (hs:Stay g w w') (hg:mb ≠ g):NM w' mb L:=h.block (hs.block hg h.lt)
theorem NM.made (w:World):NM (w.alloc (.map #[] 0)) w.heap.size []:=⟨_,World.ownsMap_made _ _ _ _,MapD.nil⟩
theorem Stay.grown9 {w w':World} {g:Nat} (h:w.grownBy w' (some g)) (hg:g ≤ w.heap.size):Stay g w w':=by
 refine ⟨⟨h.os,h.tape,h.output,h.size,fun b hb => h.block b (by omega) (by simp; omega)⟩,fun k hk hl => h.block k hl (by simp; omega)⟩
theorem cadd9_no (mb:Nat) (L:List Str) (s:Str) (w:World) (h:NM w mb L) (hs:isB s) (hl:s.length ≤ 100000) (hf:0 ≤ findG L s) :
  Calls Tryz.prog 54 #[.map (some mb),strV s] w fun e w' => e = .returned (.bool false) ∧ w' = w:=by
 obtain ⟨D,hO,hD⟩:=h
 have hh:=hD.has s hs
 rw [decide_eq_true hf] at hh
 have hk:=keyN_of (s:=s) (by unfold maxLen; omega)
 unfold strV at hk ⊢
 go_enter Tryz.func54,Tryz.ntmps54
 go_wp2_with (at_lookup; (refine wpList_lookup_own_ok_int _ rfl _ _ 68 rfl 9 3 .i64 law9 Tryz.underlying68 Tryz.underlying3 (zeroE9 _) mb _ D rfl hO _ _ rfl hk ?_; intro c hat hwc; rw [hh]))
 go_ret
 exact ⟨rfl,rfl⟩
theorem cadd9_yes (mb:Nat) (L:List Str) (s:Str) (w:World) (h:NM w mb L) (hs:isB s) (hl:s.length ≤ 100000) (hL:L.length ≤ 1099511627776) (hf:findG L s < 0) :
  Calls Tryz.prog 54 #[.map (some mb),strV s] w fun e w' => e = .returned (.bool true) ∧ NM w' mb (L ++ [s]) ∧ Stay mb w w':=by
 have hlt:=h.lt
 obtain ⟨D,hO,hD⟩:=h
 have hh:=hD.has s hs
 rw [decide_eq_false (by omega)] at hh
 have hz:=hD.size
 have HP:=hide (hD.put hs hf)
 have hk:=keyN_of (s:=s) (by unfold maxLen; omega)
 unfold strV at hk ⊢
 clear hD
 go_enter Tryz.func54,Tryz.ntmps54
 go_wp2_with (first
  | (at_lookup; (refine wpList_lookup_own_ok_int _ rfl _ _ 68 rfl 9 3 .i64 law9 Tryz.underlying68 Tryz.underlying3 (zeroE9 _) mb _ D rfl hO _ _ rfl hk ?_; intro c hat hwc; rw [hh]))
  | (at_len; (refine wpList_len_own _ rfl _ 68 rfl 9 3 Tryz.underlying68 _ mb _ D rfl hO ?_; rw [hz]))
  | (at_mapUpdate; (refine wpList_mapUpdate_own _ rfl _ _ _ 68 rfl 9 3 law9 Tryz.underlying68 _ mb _ D rfl hO (by unfold maxLen; omega) _ _ _ rfl rfl hk _ [] (plainElem_int Tryz.underlying3 (WalkArith.wf_i64 (by omega))) ?_; intro w1 hO1 hg1)))
 go_ret
 refine ⟨rfl,⟨_,?_,uh HP⟩,Stay.grown9 hg1 (Nat.le_of_lt hlt)⟩
 rw [List.length_append]; exact hO1
end Go.Proofs.YtbmmcbagdomonaaGreat
