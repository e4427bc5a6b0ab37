import Derived.Maps.Views
import Derived.Test.YtbmmcbagdomonaaGreatV47
set_option maxRecDepth 100000
set_option maxHeartbeats 40000000
namespace Go.Proofs.YtbmmcbagdomonaaGreat
open Go.RowKit
set_option linter.unusedVariables false
set_option linter.unusedSimpArgs false
open Go.Maps
def runG:List Bool → List GnD → Option (List Bool)
 | dl,[] => some dl
 | dl,n :: r => if readyG dl n.ins = true then runG (defG dl n.outs) r else none
def looseG (g:GrD):Bool:=match runG (givenG g.vals g.inp) g.nodes with
 | none => true
 | some dl => g.out.any fun v => !dl.getD v.toNat false
def checkG (g:GrD):Int:=if placesG g = false then 2 else if twiceG g = true then 13 else if looseG g = true then 12 else 0
theorem run_step {dl:List Bool} {l:List GnA} {n:Nat} (h:n < l.length):runG dl ((l.drop n).map GnA.d) = if readyG dl (l.getD n noGnA).ins = true then runG (defG dl (l.getD n noGnA).outs) ((l.drop (n + 1)).map GnA.d) else none:=by
 rw [List.drop_eq_getElem_cons h,List.map_cons,List.getD_eq_getElem?_getD,List.getElem?_eq_getElem h]
 rfl
theorem cundef9_any (x:Int) (f b n:Nat) (t:TypeId) (dl:List Bool) (w:World) (h:Box w f #[.slice (some ⟨b,0,none⟩) n n] t) (hb:Bm w b dl) (hn:dl.length = n) (hl:n ≤ 9223372036854775807) (h0:0 ≤ x) (h1:x < (n:Int)) :
  Calls Tryz.prog 81 #[.int .i64 x,.pointer (some ⟨f,0,none⟩)] w fun e w' => e = .returned (.bool (!dl.getD x.toNat false)) ∧ Below w.heap.size w w':=by
 obtain ⟨m,rfl⟩:∃ m:Nat,x = m:=⟨x.toNat,by omega⟩
 rw [Int.toNat_natCast]
 have k2:=hb.at (m:=m) (by omega)
 have x1:=h.cell
 generalize dl.getD m false = bv at k2 ⊢
 clear h hb
 go_enter Tryz.func81,Tryz.ntmps81
 go_wp2_with fail
 go_ret
 exact ⟨by cases bv <;> rfl,Below.refl _ _⟩
theorem cloose9_any (G:GrA) (OK:Nat → Prop) (w:World) (h:GrIn OK w G) (hl:G.vals.length ≤ 1099511627776) (hp:placesG G.d = true) :
  Calls Tryz.prog 38 #[grV G] w fun e w' => e = .returned (.bool (looseG G.d)) ∧ Below w.heap.size w w':=by
 have HK1:Ent 81:=ent_of Tryz.func81 (by kernel_rfl) rfl
 have HPL:Hid ((∀ v ∈ G.inp,0 ≤ v ∧ v < (G.vals.length:Int)) ∧ (∀ v ∈ G.out,0 ≤ v ∧ v < (G.vals.length:Int)) ∧ ∀ x ∈ G.nodes,(∀ v ∈ x.ins,v = -1 ∨ (0 ≤ v ∧ v < (G.vals.length:Int))) ∧ ∀ v ∈ x.outs,0 ≤ v ∧ v < (G.vals.length:Int)):=hide (by
  unfold placesG GrA.d at hp
  simp only [List.length_map,Bool.and_eq_true,Bool.not_eq_true',Bool.or_eq_false_iff,List.any_eq_false,Bool.not_eq_true,Bool.not_eq_false'] at hp
  obtain ⟨⟨h1,h3⟩,h2⟩:=hp
  refine ⟨fun v hv => ?_,fun v hv => ?_,fun x hx => ⟨fun v hv => ?_,fun v hv => ?_⟩⟩
  ·have:=h1 v hv
   simpa [inV] using this
  ·have:=h3 v hv
   simpa [inV] using this
  ·have:=h2 x.d (List.mem_map.2 ⟨x,hx,rfl⟩)
   unfold badN at this
   simp only [Bool.or_eq_false_iff,List.any_eq_false] at this
   have:=this.1 v hv
   by_cases q:v = -1
   ·exact .inl q
   ·right; simpa [inV,q] using this
  ·have:=h2 x.d (List.mem_map.2 ⟨x,hx,rfl⟩)
   unfold badN at this
   simp only [Bool.or_eq_false_iff,List.any_eq_false] at this
   have:=this.2 v hv
   simpa [inV] using this)
 have CG:=hide (fun v (hv:Below w.heap.size w v) => cgiven9_any G OK v (grP.hold h (Hold.below hv)) hl (uh HPL).1)
 obtain ⟨R,hR⟩:∃ R,looseG G.d = R:=⟨_,rfl⟩
 have HR:Hid (R = match runG (givenG (G.vals.map VgA.d) G.inp) (G.nodes.map GnA.d) with
  | none => true
  | some dl => G.out.any fun v => !dl.getD v.toNat false):=hide hR.symm
 rw [hR]
 clear hR hp
 obtain ⟨vals,qv,cv,nodes,qn,cn,inp,qi,ci,out,qo,co⟩:=G
 have HN:=hide h.2.1
 have HO:=hide h.2.2.2
 unfold grV grCells at CG
 unfold grV grCells
 simp only at HN HO CG HR HPL hl ⊢
 have HGL:Hid ((givenG (vals.map VgA.d) inp).length = vals.length):=hide (by rw [given_len9,List.length_map])
 obtain ⟨D0,hD0⟩:∃ D,givenG (vals.map VgA.d) inp = D:=⟨_,rfl⟩
 rw [hD0] at CG HR HGL
 obtain ⟨N,hN⟩:∃ N,vals.length = N:=⟨_,rfl⟩
 rw [hN] at CG HPL HGL hl ⊢
 clear hD0 hN h
 have hlen:=(uh HN).1.len
 go_enter Tryz.func38,Tryz.ntmps38
 obtain ⟨W1,hW1⟩:∃ W,w.alloc (.cells #[.slice qv N cv,.slice qn nodes.length cn,.slice qi inp.length ci,.slice qo out.length co] 32) = W:=⟨_,rfl⟩
 have B1:Hid (Below w.heap.size w W1):=hide (by rw [← hW1]; exact al1p _ _)
 have X1:Hid (Box W1 w.heap.size #[.slice qv N cv,.slice qn nodes.length cn,.slice qi inp.length ci,.slice qo out.length co] 32):=hide (by rw [← hW1]; exact Box.new _ _ _)
 have x1:=(uh X1).cell
 go_upto_region 1 with fail
 (try rw [hW1])
 clear hW1
 go_wp2_with fail
 refine (uh CG _ (uh B1)).mono ?_
 rintro e w2 ⟨⟨b,rfl,hbs,hbm⟩,hb⟩
 have B2:=hide (bl_tr (uh B1) hb)
 have X2:=hide ((uh X1).below hb)
 have M2:=hide hbm
 have HB1:Hid (w.heap.size < b):=hide (Nat.lt_of_lt_of_le (uh X1).lt hbs)
 have HB0:Hid (w.heap.size ≤ b):=hide (Nat.le_trans (uh B1).size hbs)
 clear hbs hbm hb x1 X1 CG
 go_upto_region 2 with fail
 obtain ⟨W3,hW3⟩:∃ W,w2.alloc (.cells #[.slice (some ⟨b,0,none⟩) N N] 39) = W:=⟨_,rfl⟩
 have K3:Hid (Below w2.heap.size w2 W3):=hide (by rw [← hW3]; exact al1p _ _)
 have Y3:Hid (Box W3 w2.heap.size #[.slice (some ⟨b,0,none⟩) N N] 39):=hide (by rw [← hW3]; exact Box.new _ _ _)
 rw [hW3]
 clear hW3
 have HBF:Hid (b < w2.heap.size):=hide (uh M2).lt
 have X3:=hide ((uh X2).below (uh K3))
 have M3:=hide ((uh M2).below (uh K3))
 have B3:=hide (bl_tr (uh B2) (uh K3))
 have HF3:Hid (w2.heap.size < W3.heap.size):=hide (uh Y3).lt
 obtain ⟨f,hf⟩:∃ f,w2.heap.size = f:=⟨_,rfl⟩
 rw [hf] at Y3 HBF HF3 ⊢
 clear hf K3 M2 X2 B2
 have x3:=(uh X3).cell
 go_wp2_with fail
 have HNL:=hide hlen
 clear x3
 go_loopw [11] (fun iv wr => ∃ (n:Nat) (dl:List Bool),iv = .int .i64 n ∧ n ≤ nodes.length ∧ Hid (Bm wr b dl) ∧ Hid (dl.length = N) ∧ Hid (runG D0 (nodes.map GnA.d) = runG dl ((nodes.drop n).map GnA.d)) ∧ Hid (Stay b W3 wr)) (fun iv _ => nodes.length - (intOf iv).toNat)
 case atStart => exact ⟨0,D0,rfl,by omega,M3,HGL,hide rfl,hide (Stay.refl _ _)⟩
 case round =>
  obtain ⟨n,dl,rfl,hn,HM,HL,HRU,HS⟩:=hrel
  have hlen:=uh HNL
  have Yr:Hid (Box wr f #[.slice (some ⟨b,0,none⟩) N N] 39):=hide (((uh HS).block (by have:=uh HBF; omega) (uh HF3)).trans (uh Y3))
  have BW:Hid (Below w.heap.size w wr):=hide (bl_tr7 (uh B3) (bl_mono7 (uh HS).1 (uh HB0)))
  by_cases hlt:n < nodes.length
  ·have hi:(n:Int) < (nodes.length:Int):=by omega
   obtain ⟨bg,og,hq,hbg,_⟩:=(uh HN).1.lies (show 0 < nodes.length by omega)
   subst hq
   have A1:Hid (At8 wr bg (og + n * 40) (gnCells (nodes.getD n noGnA))):=hide (Rc.at9 ((uh HN).1.below (uh BW)) hlt)
   have HX:Hid (GnIn OK w (nodes.getD n noGnA)):=hide ((uh HN).2.2 _ (getD_mem9 hlt))
   have HXB:=hide ((uh HPL).2.2 _ (getD_mem9 (z:=noGnA) hlt))
   have HT:=hide (run_step (dl:=dl) hlt)
   have hblt:Hid (∀ b' o,(nodes.getD n noGnA).qo = some ⟨b',o,none⟩ → 0 < (nodes.getD n noGnA).outs.length → b' ≠ b):=hide (fun b' o e hp => by
    have:=(uh HX).2.2.2.1.1.ls.inB b' o e hp
    have:=uh HB0
    omega)
   generalize nodes.getD n noGnA = x at A1 HX HXB HT hblt
   have CA:=hide (fun v (hv:Below wr.heap.size wr v) => careDef9_any x.qi x.ci x.ins b dl v (gnP.hold (uh HX) (Hold.below (bl_tr (uh BW) hv))).2.2.1.1 ((uh HM).below hv) (by rw [uh HL]; omega) (by rw [uh HL]; exact (uh HXB).1))
   have CD:=hide (fun v (hv:Below wr.heap.size wr v) => cdefine9_any x.qo x.co x.outs b dl v (gnP.hold (uh HX) (Hold.below (bl_tr (uh BW) hv))).2.2.2.1.1 ((uh HM).below hv) (uh hblt) (by rw [uh HL]; omega) (by rw [uh HL]; exact (uh HXB).2))
   rw [uh HL] at CA CD
   obtain ⟨r,hr⟩:∃ r,readyG dl x.ins = r:=⟨_,rfl⟩
   rw [hr] at CA HT
   have yc:=(uh Yr).cell
   have hbr:=(uh HM).lt
   clear hr hbg
   go_upto_region 5 with (first
     | (refine wpList_isLoad 51 rfl ?_; refine wpList_loadG aggGn rfl _ rfl rfl (gnWd.2.1 x) (uh A1) ?_)
     | (refine wpList_isStore 51 rfl ?_; (refine wpList_storeG aggGn rfl _ _ rfl rfl rfl (Box.new wr gnZc 51) (gnSize x) rfl (gnWd.ones x) ?_; intro w5 b5 s5 z5; have G5:=hide b5; have B5:Hid (Below wr.heap.size wr w5):=hide (bl_tr7 (al1p _ _) s5.1); have v37:w5.cell? ⟨wr.heap.size,37,none⟩ = some (.slice x.qi x.ins.length x.ci):=((uh G5).cell 37).trans (by simpa using gn_37 x); have v38:w5.cell? ⟨wr.heap.size,38,none⟩ = some (.slice x.qo x.outs.length x.co):=((uh G5).cell 38).trans (by simpa using gn_38 x); have y5:=((uh Yr).below (uh B5)).cell; clear b5 s5 z5)))
   clear yc
   cases r with
   | false =>
     have e0:R = true:=by rw [uh HR,uh HRU,uh HT]; rfl
     subst e0
     go_wp2_with fail
     refine (uh CA _ (uh B5)).mono ?_
     rintro e w6 ⟨rfl,hv⟩
     replace hv:=hv.symm
     subst hv
     go_wp2_with fail
     go_ret
     exact ⟨rfl,bl_tr (uh BW) (uh B5)⟩
   | true =>
     go_wp2_with fail
     refine (uh CA _ (uh B5)).mono ?_
     rintro e w6 ⟨rfl,hv⟩
     replace hv:=hv.symm
     subst hv
     go_wp2_with fail
     refine (uh CD _ (uh B5)).mono ?_
     rintro e w7 ⟨rfl,hM7,hS7⟩
     have M7:=hide hM7
     have S7:Hid (Stay b W3 w7):=hide ((uh HS).trans ((Stay.below (uh B5) (Nat.le_of_lt hbr)).trans hS7))
     clear hM7 hS7 v37 v38 y5
     go_wp2_with fail
     go_roundw
     case rel => exact ⟨n + 1,_,by go_num,by omega,M7,hide (by rw [defG_len]; exact uh HL),hide (by rw [uh HRU,uh HT]; rfl),S7⟩
     case measure => simp [intOf]; omega
  ·have hi:¬ (n:Int) < (nodes.length:Int):=by omega
   have e0:n = nodes.length:=by omega
   subst e0
   rw [List.drop_length] at HRU
   have X4:Hid (Box wr w.heap.size #[.slice qv N cv,.slice qn nodes.length cn,.slice qi inp.length ci,.slice qo out.length co] 32):=hide (((uh HS).block (by have:=uh HB0; have:=uh HB1; omega) (uh X3).lt).trans (uh X3))
   have x4:=(uh X4).cell
   have CC:=hide (ccontInt9_any 81 HK1 #[.pointer (some ⟨f,0,none⟩)] (fun u => !dl.getD u.toNat false) qo co out wr ((uh HO).hold (Hold.below (uh BW))).1 (fun u hu x hx => cundef9_any x f b N _ dl u ((uh Yr).below hu) ((uh HM).below hu) (uh HL) (by omega) ((uh HPL).2.1 x hx).1 ((uh HPL).2.1 x hx).2))
   rw [← show R = out.any fun u => !dl.getD u.toNat false by rw [uh HR,uh HRU]; rfl] at CC
   have hmf:∀ (fn:Fn) (first cap:Array Value) (w:World),(Instr.makeFunc fn first cap).run Tryz.prog w = .ok (.func fn first cap) w:=fun _ _ _ _ => rfl
   go_wp2_with fail
   refine (uh CC).mono ?_
   rintro e w9 ⟨rfl,hb⟩
   have B9:=hide (bl_tr (uh BW) hb)
   clear hb
   go_wp2_with fail
   go_ret
   exact ⟨rfl,uh B9⟩
theorem ccheck9_any (G:GrA) (OK:Nat → Prop) (w:World) (h:GrIn OK w G) (hl:G.vals.length ≤ 1099511627776) (hS:G.inp.length + (G.nodes.map fun n => n.outs.length).sum ≤ 4611686018427387904) :
  Calls Tryz.prog 12 #[grV G] w fun e w' => e = .returned (.int .i64 (checkG G.d)) ∧ Below w.heap.size w w':=by
 have C1:=hide (fun v (hv:Below w.heap.size w v) => cplaces9_any G OK v (grP.hold h (Hold.below hv)))
 have C2:=hide (fun (hp:placesG G.d = true) v (hv:Below w.heap.size w v) => ctwice9_any G OK v (grP.hold h (Hold.below hv)) hl hp hS)
 have C3:=hide (fun (hp:placesG G.d = true) v (hv:Below w.heap.size w v) => cloose9_any G OK v (grP.hold h (Hold.below hv)) hl hp)
 obtain ⟨R,hR⟩:∃ R,checkG G.d = R:=⟨_,rfl⟩
 have HR:=hide hR
 unfold checkG at HR
 rw [hR]
 generalize placesG G.d = P at C1 C2 C3 HR
 generalize twiceG G.d = T at C2 HR
 generalize looseG G.d = L at C3 HR
 clear hR h hl hS
 obtain ⟨vals,qv,cv,nodes,qn,cn,inp,qi,ci,out,qo,co⟩:=G
 unfold grV grCells at C1 C2 C3
 unfold grV grCells
 simp only at C1 C2 C3 ⊢
 obtain ⟨W1,hW1⟩:∃ W,w.alloc (.cells #[.slice qv vals.length cv,.slice qn nodes.length cn,.slice qi inp.length ci,.slice qo out.length co] 32) = W:=⟨_,rfl⟩
 have B1:Hid (Below w.heap.size w W1):=hide (by rw [← hW1]; exact al1p _ _)
 have X1:Hid (Box W1 w.heap.size #[.slice qv vals.length cv,.slice qn nodes.length cn,.slice qi inp.length ci,.slice qo out.length co] 32):=hide (by rw [← hW1]; exact Box.new _ _ _)
 have x1:=(uh X1).cell
 go_enter Tryz.func12,Tryz.ntmps12
 go_upto_region 1 with fail
 (try rw [hW1])
 clear hW1
 go_wp2_with fail
 refine (uh C1 _ (uh B1)).mono ?_
 rintro e w2 ⟨rfl,hb⟩
 have B2:=hide (bl_tr (uh B1) hb)
 have X2:=hide ((uh X1).below hb)
 have x2:=(uh X2).cell
 clear hb x1
 cases P with
 | false =>
   have e0:R = 2:=by rw [← uh HR]; rfl
   subst e0
   go_wp2_with fail
   go_ret
   exact ⟨rfl,uh B2⟩
 | true =>
 go_wp2_with fail
 refine (uh C2 trivial _ (uh B2)).mono ?_
 rintro e w3 ⟨rfl,hb⟩
 have B3:=hide (bl_tr (uh B2) hb)
 have X3:=hide ((uh X2).below hb)
 have x3:=(uh X3).cell
 clear hb x2
 cases T with
 | true =>
   have e0:R = 13:=by rw [← uh HR]; rfl
   subst e0
   go_wp2_with fail
   go_ret
   exact ⟨rfl,uh B3⟩
 | false =>
 go_wp2_with fail
 refine (uh C3 trivial _ (uh B3)).mono ?_
 rintro e w4 ⟨rfl,hb⟩
 have B4:=hide (bl_tr (uh B3) hb)
 clear hb x3
 cases L with
 | true =>
   have e0:R = 12:=by rw [← uh HR]; rfl
   subst e0
   go_wp2_with fail
   go_ret
   exact ⟨rfl,uh B4⟩
 | false =>
   have e0:R = 0:=by rw [← uh HR]; rfl
   subst e0
   go_wp2_with fail
   go_ret
   exact ⟨rfl,uh B4⟩
theorem lawI9:Keyed Tryz.prog 3:=int_keyed Tryz.underlying3
theorem keyI_of {x:Int} (h:(Lit.int .i64 x).wf = true):keyOf Tryz.prog 3 (.int .i64 x) = some (.int .i64 x):=by
 have e:keyOf Tryz.prog 3 (.int .i64 x) = mapKey Tryz.prog 3 (.int .i64 x):=by simp [keyOf,Tryz.underlying3]
 rw [e]
 simp [mapKey,h,Tryz.underlying3]
structure MarkD (D:DataW Unit) (S:List Int):Prop where
 has:∀ x:Int,Maps.has D (.int .i64 x) = decide (x ∈ S)
 tidy:Tidy D
theorem MarkD.nil:MarkD (.map []) []:=⟨fun x => by simp [Maps.has],tidy_empty⟩
theorem MarkD.put {D:DataW Unit} {S:List Int} (h:MarkD D S) (x:Int) (d:DataW Unit):MarkD (D.put (.int .i64 x) d) (S ++ [x]):=by
 obtain ⟨es,hD,_⟩:=h.tidy
 have hk:WideAt.IsKeyLit (Lit.int .i64 x):=trivial
 refine ⟨fun y => ?_,h.tidy.put hk _⟩
 by_cases e:y = x
 ·subst e
  rw [has_put_same ⟨es,hD⟩ hk]; simp
 ·rw [has_put_other (fun q => e (by injection q)),h.has y]
  simp [e]
def KM (w:World) (mb n:Nat) (S:List Int):Prop:=∃ D:DataW Unit,w.ownsMap Tryz.prog 3 unitElem mb n D ∧ MarkD D S
theorem KM.lt {w:World} {mb n:Nat} {S:List Int} (h:KM w mb n S):mb < w.heap.size:=by
 obtain ⟨D,⟨es,cl,hh,_⟩,_⟩:=h
 exact lt_of_block hh
theorem KM.block {w w':World} {mb n:Nat} {S:List Int} (h:KM w mb n S) (hb:w'.heap[mb]? = w.heap[mb]?):KM w' mb n S:=by
 obtain ⟨D,⟨es,cl,hh,h2⟩,h3⟩:=h
 exact ⟨D,⟨es,cl,hb.trans hh,h2⟩,h3⟩
theorem KM.below {w w':World} {mb n:Nat} {S:List Int} (h:KM w mb n S) (hb:Below w.heap.size w w'):KM w' mb n S:=h.block (hb.block mb h.lt)
theorem KM.stay {w w':World} {g mb n:Nat} {S:List Int} (h:KM w mb n S) (hs:Stay g w w') (hg:mb ≠ g):KM w' mb n S:=h.block (hs.block hg h.lt)
theorem KM.made (w:World):KM (w.alloc (.map #[] 0)) w.heap.size 0 []:=⟨_,World.ownsMap_made _ _ _ _,MarkD.nil⟩
theorem any_take9 (P:Int → Bool) (l:List Int) (n:Nat) (h:n < l.length):(l.take (n + 1)).any P = ((l.take n).any P || P (l.getD n 0)):=by
 rw [List.take_add_one,List.any_append,List.getD_eq_getElem?_getD,List.getElem?_eq_getElem h]
 simp
theorem take_snoc9 (l:List Int) (n:Nat) (h:n < l.length):l.take (n + 1) = l.take n ++ [l.getD n 0]:=by
 rw [List.take_add_one,List.getD_eq_getElem?_getD,List.getElem?_eq_getElem h]; rfl
theorem cmadd9_any (mb n0:Nat) (S:List Int) (q:Option Addr) (c:Nat) (l:List Int) (w:World) (h:KM w mb n0 S) (hl:Ints .i64 w q c l) (ho:∀ b' o,q = some ⟨b',o,none⟩ → 0 < l.length → b' ≠ mb) (hn:n0 + l.length ≤ 4611686018427387904) :
  Calls Tryz.prog 39 #[.map (some mb),.slice q l.length c] w fun e w' => e = .returned (.tuple #[]) ∧ KM w' mb (n0 + l.length) (S ++ l) ∧ Stay mb w w':=by
 have HM:=hide h
 have HL:=hide hl
 have HO:=hide ho
 have hlen:=hl.ls.len
 clear h hl ho
 go_enter Tryz.func39,Tryz.ntmps39
 go_wp2_with fail
 go_loopw [8] (fun iv wr => ∃ n:Nat,iv = .int .i64 n ∧ n ≤ l.length ∧ Hid (KM wr mb (n0 + n) (S ++ l.take n)) ∧ Hid (Stay mb w wr)) (fun iv _ => l.length - (intOf iv).toNat)
 case atStart => exact ⟨0,rfl,by omega,hide (by simpa using uh HM),hide (Stay.refl _ _)⟩
 case round =>
  obtain ⟨n,rfl,hnl,HF,HS⟩:=hrel
  by_cases hlt:n < l.length
  ·have hi:(n:Int) < (l.length:Int):=by omega
   obtain ⟨bq,oq,hq,hbq,hcq⟩:=((uh HL).ls.stay8 (uh HO) (uh HS)).lies (show 0 < l.length by omega)
   subst hq
   have k1:wr.cell? ⟨bq,oq + n,none⟩ = some (.int .i64 (l.getD n 0)):=hcq n hlt
   obtain ⟨r0,r1⟩:=(uh HL).i64 n hlt
   have HT:=hide (take_snoc9 l n hlt)
   clear hcq
   generalize l.getD n 0 = x at k1 r0 r1 HT
   have hk:=keyI_of (x:=x) (WalkArith.wf_i64 (by omega))
   have hlt0:=(uh HF).lt
   obtain ⟨D,hO,hD⟩:=uh HF
   have HD:=hide hD
   clear hD
   go_wp2_with (at_mapUpdate; (refine wpList_mapUpdate_own _ rfl _ _ _ 90 rfl 3 _ lawI9 Tryz.underlying90 unitElem mb _ D rfl hO (by unfold maxLen; omega) _ _ _ rfl rfl hk (.agg []) [] unitElem_mk ?_; intro w1 hO1 hg1; have K1:Hid (KM w1 mb (n0 + n + 1) (S ++ l.take (n + 1))):=hide ⟨_,hO1,by rw [uh HT,← List.append_assoc]; exact (uh HD).put x _⟩; have S1:=hide (Stay.grown9 hg1 (Nat.le_of_lt hlt0)); clear hO1 hg1))
   go_roundw
   case rel => exact ⟨n + 1,by go_num,by omega,K1,hide ((uh HS).trans (uh S1))⟩
   case measure => simp [intOf]; omega
  ·have hi:¬ (n:Int) < (l.length:Int):=by omega
   have e0:n = l.length:=by omega
   subst e0
   rw [List.take_length] at HF
   go_wp2_with fail
   exact bodyPost_end (by simp [results,Tryz.results39,go_sem]) rfl ⟨rfl,uh HF,uh HS⟩
theorem chasany9_any (mb n0:Nat) (S:List Int) (q:Option Addr) (c:Nat) (l:List Int) (w:World) (h:KM w mb n0 S) (hl:Ints .i64 w q c l) :
  Calls Tryz.prog 40 #[.map (some mb),.slice q l.length c] w fun e w' => e = .returned (.bool (l.any fun x => decide (x ∈ S))) ∧ Below w.heap.size w w':=by
 have HM:=hide h
 have HL:=hide hl
 have hlen:=hl.ls.len
 clear h hl
 obtain ⟨R,hR⟩:∃ R,(l.any fun x => decide (x ∈ S)) = R:=⟨_,rfl⟩
 have HR:=hide hR
 rw [hR]
 clear hR
 go_enter Tryz.func40,Tryz.ntmps40
 go_wp2_with fail
 go_loopw [11] (fun iv wr => ∃ n:Nat,iv = .int .i64 n ∧ n ≤ l.length ∧ Hid ((l.take n).any (fun x => decide (x ∈ S)) = false) ∧ Hid (Below w.heap.size w wr)) (fun iv _ => l.length - (intOf iv).toNat)
 case atStart => exact ⟨0,rfl,by omega,hide rfl,hide (Below.refl _ _)⟩
 case round =>
  obtain ⟨n,rfl,hnl,HF,HB⟩:=hrel
  by_cases hlt:n < l.length
  ·have hi:(n:Int) < (l.length:Int):=by omega
   obtain ⟨bq,oq,hq,hbq,hcq⟩:=((uh HL).ls.below (uh HB)).lies (show 0 < l.length by omega)
   subst hq
   have k1:wr.cell? ⟨bq,oq + n,none⟩ = some (.int .i64 (l.getD n 0)):=hcq n hlt
   obtain ⟨r0,r1⟩:=(uh HL).i64 n hlt
   have HT:=hide (any_take9 (fun x => decide (x ∈ S)) l n hlt)
   have HY:Hid (decide (l.getD n 0 ∈ S) = true → l.any (fun x => decide (x ∈ S)) = true):=hide (fun e => List.any_eq_true.2 ⟨_,getD_mem9 hlt,e⟩)
   clear hcq
   generalize l.getD n 0 = x at k1 r0 r1 HT HY
   have hk:=keyI_of (x:=x) (WalkArith.wf_i64 (by omega))
   obtain ⟨D,hO,hD⟩:=(uh HM).below (uh HB)
   have hh:=hD.has x
   clear hD
   generalize decide (x ∈ S) = B at HT HY hh
   cases B with
   | true =>
     have e0:R = true:=by rw [← uh HR]; exact uh HY rfl
     subst e0
     go_wp2_with (at_lookup; (refine wpList_lookup_own_unit _ rfl _ _ 90 rfl 3 _ lawI9 Tryz.underlying90 (by kernel_rfl) mb _ D rfl hO _ _ rfl hk ?_; rw [hh]))
     go_ret
     exact ⟨rfl,bl_tr (uh HB) (al1p _ _)⟩
   | false =>
     go_wp2_with (at_lookup; (refine wpList_lookup_own_unit _ rfl _ _ 90 rfl 3 _ lawI9 Tryz.underlying90 (by kernel_rfl) mb _ D rfl hO _ _ rfl hk ?_; rw [hh]))
     go_roundw
     case rel => exact ⟨n + 1,by go_num,by omega,hide (by rw [uh HT,uh HF]; rfl),hide (bl_tr (uh HB) (al1p _ _))⟩
     case measure => simp [intOf]; omega
  ·have hi:¬ (n:Int) < (l.length:Int):=by omega
   have e0:R = false:=by
    have hf:=uh HF
    rw [List.take_of_length_le (by omega)] at hf
    rw [← uh HR,hf]
   subst e0
   go_wp2_with fail
   go_ret
   exact ⟨rfl,uh HB⟩
def liveP (out:List Int):List GnD → List Bool × List Int
 | [] => ([],out)
 | n :: r => if (n.outs.any fun x => decide (x ∈ (liveP out r).2)) = true then (true :: (liveP out r).1,(liveP out r).2 ++ n.ins) else (false :: (liveP out r).1,(liveP out r).2)
def liveG (g:GrD):List Bool:=(liveP g.out g.nodes).1
theorem live_len (out:List Int):∀ (l:List GnD),(liveP out l).1.length = l.length
 | [] => rfl
 | n :: r => by
   unfold liveP
   by_cases h:(n.outs.any fun x => decide (x ∈ (liveP out r).2)) = true
   ·rw [if_pos h,List.length_cons,List.length_cons,live_len out r]
   ·rw [if_neg h,List.length_cons,List.length_cons,live_len out r]
theorem live_step (out:List Int) {l:List GnA} {k:Nat} (h:k < l.length):liveP out ((l.drop k).map GnA.d) = if ((l.getD k noGnA).outs.any fun x => decide (x ∈ (liveP out ((l.drop (k + 1)).map GnA.d)).2)) = true then (true :: (liveP out ((l.drop (k + 1)).map GnA.d)).1,(liveP out ((l.drop (k + 1)).map GnA.d)).2 ++ (l.getD k noGnA).ins) else (false :: (liveP out ((l.drop (k + 1)).map GnA.d)).1,(liveP out ((l.drop (k + 1)).map GnA.d)).2):=by
 rw [List.drop_eq_getElem_cons h,List.map_cons,List.getD_eq_getElem?_getD,List.getElem?_eq_getElem h]
 rfl
theorem sum_drop9 (f:GnA → Nat) (l:List GnA) (k:Nat) (h:k < l.length):((l.drop k).map f).sum = f (l.getD k noGnA) + ((l.drop (k + 1)).map f).sum:=by
 rw [List.drop_eq_getElem_cons h,List.getD_eq_getElem?_getD,List.getElem?_eq_getElem h,List.map_cons,List.sum_cons]
 rfl
theorem sum_drop_le9 (f:GnA → Nat) (l:List GnA) (k:Nat):((l.drop k).map f).sum ≤ (l.map f).sum:=by
 conv => rhs; rw [← List.take_append_drop k l,List.map_append,List.sum_append]
 omega
theorem rep_set9 (k:Nat) (b:Bool) (t:List Bool):(List.replicate (k + 1) false ++ t).set k b = List.replicate k false ++ (b :: t):=by
 rw [List.replicate_succ',List.append_assoc,List.set_append_right _ _ (by rw [List.length_replicate]; exact Nat.le_refl _),List.length_replicate,Nat.sub_self]
 rfl
theorem rep_get9 (k:Nat) (b:Bool) (t:List Bool):(List.replicate k false ++ (b :: t)).getD k false = b:=by
 rw [List.getD_eq_getElem?_getD,List.getElem?_append_right (by rw [List.length_replicate]; exact Nat.le_refl _),List.length_replicate,Nat.sub_self]
 rfl
theorem clive9_any (G:GrA) (OK:Nat → Prop) (w:World) (h:GrIn OK w G) (hl:G.nodes.length ≤ 1099511627776) (hS:G.out.length + (G.nodes.map fun n => n.ins.length).sum ≤ 4611686018427387904) :
  Calls Tryz.prog 13 #[grV G] w fun e w' => (∃ b,e = .returned (.slice (some ⟨b,0,none⟩) G.nodes.length G.nodes.length) ∧ w.heap.size ≤ b ∧ Bm w' b (liveG G.d)) ∧ Below w.heap.size w w':=by
 obtain ⟨vals,qv,cv,nodes,qn,cn,inp,qi,ci,out,qo,co⟩:=G
 simp only at hl hS
 obtain ⟨i1,hi1,y1,z1,b1⟩:=info_parts Tryz.info8bool
 have HN:=hide h.2.1
 have HO:=hide h.2.2.2
 have HSS:=hide hS
 have HR:Hid (liveG (GrA.d ⟨vals,qv,cv,nodes,qn,cn,inp,qi,ci,out,qo,co⟩) = (liveP out (nodes.map GnA.d)).1):=hide rfl
 generalize liveG (GrA.d ⟨vals,qv,cv,nodes,qn,cn,inp,qi,ci,out,qo,co⟩) = R at HR ⊢
 clear h hS
 simp only at HN HO
 have hlen:=(uh HN).1.len
 have hmm:=@run_makeMap Tryz.prog
 go_enter Tryz.func13,Tryz.ntmps13
 unfold grV grCells
 go_upto_region 2 with (at_make; (refine wpList_make_full _ rfl _ _ 39 rfl (w.heap.size + 1) 4 i1 (.bool false) 1 Tryz.underlying39 hi1 y1 z1 _ _ _ _ nodes.length rfl rfl (by omega) (by omega) (by rw [b1]; omega) (by unfold maxLen; omega) (by simp) ?_; intro w3 hown hgrow; have HM:Hid (Bm w3 (w.heap.size + 1) (List.replicate nodes.length false)):=hide (by have:=Mrow.made bcWd8 false rfl hown; simpa [Bm] using this); have HB3:=hide ((Below.refl _ _).grown hgrow (Nat.le_refl _) (fun k hk => by cases hk)); have X3:Hid (Box w3 w.heap.size #[.slice qv vals.length cv,.slice qn nodes.length cn,.slice qi inp.length ci,.slice qo out.length co] 32):=hide (Box.below (Box.new _ _ _) (uh HB3)); have BB3:Hid (Below w.heap.size w w3):=hide (bl_tr (al1p _ _) (uh HB3)); clear hown hgrow HB3))
 obtain ⟨sb,hsb⟩:∃ sb,w.heap.size + 1 = sb:=⟨_,rfl⟩
 have HSB:=hide hsb
 rw [hsb] at HM ⊢
 clear hsb
 go_upto_region 3 with fail
 obtain ⟨W4,hW4⟩:∃ W,w3.alloc (.map #[] 0) = W:=⟨_,rfl⟩
 have K4:Hid (Below w3.heap.size w3 W4):=hide (by rw [← hW4]; exact al1p _ _)
 have M4:Hid (KM W4 w3.heap.size 0 []):=hide (by rw [← hW4]; exact KM.made _)
 rw [hW4]
 clear hW4
 have HSM:Hid (sb < w3.heap.size):=hide (uh HM).lt
 have X4:=hide ((uh X3).below (uh K4))
 have D4:=hide ((uh HM).below (uh K4))
 have B4:=hide (bl_tr (uh BB3) (uh K4))
 obtain ⟨mb,hmb⟩:∃ mb,w3.heap.size = mb:=⟨_,rfl⟩
 rw [hmb] at M4 HSM ⊢
 clear hmb K4 HM X3
 have x4:=(uh X4).cell
 have CA:=hide (cmadd9_any mb 0 [] qo co out W4 (uh M4) ((uh HO).hold (Hold.below (uh B4))).1 (fun b' o e hp => by
  have:=(uh HO).1.ls.inB b' o e hp
  have:=uh HSM
  have:=uh HSB
  omega) (by have:=uh HSS; omega))
 rw [Nat.zero_add,List.nil_append] at CA
 go_wp2_with fail
 refine (uh CA).mono ?_
 rintro e w5 ⟨rfl,hK,hS5⟩
 have M5:=hide hK
 have S5:=hide hS5
 have D5:Hid (Bm w5 sb (List.replicate nodes.length false)):=hide ((uh D4).stay hS5 (by have:=uh HSM; omega))
 have X5:Hid (Box w5 w.heap.size #[.slice qv vals.length cv,.slice qn nodes.length cn,.slice qi inp.length ci,.slice qo out.length co] 32):=hide ((hS5.block (by have:=uh HSM; have:=uh HSB; omega) (uh X4).lt).trans (uh X4))
 have B5:Hid (Below w.heap.size w w5):=hide (bl_tr7 (uh B4) (bl_mono7 hS5.1 (by have:=uh HSM; have:=uh HSB; omega)))
 have x5:=(uh X5).cell
 clear hK hS5 x4 CA M4 D4 X4
 have HNL:=hide hlen
 have hw1:IntKind.i64.wrap ((nodes.length:Int) - 1) = (nodes.length:Int) - 1:=by rw [IntKind.wrap_i64]; omega
 go_upto_region 5 with fail
 clear hw1 x5
 go_loopw [5] (fun iv wr => ∃ (k cnt:Nat) (i:Int),iv = .int .i64 i ∧ i = (k:Int) - 1 ∧ k ≤ nodes.length ∧ cnt ≤ out.length + ((nodes.drop k).map fun n => n.ins.length).sum ∧ Hid (Bm wr sb (List.replicate k false ++ (liveP out ((nodes.drop k).map GnA.d)).1)) ∧ Hid (KM wr mb cnt (liveP out ((nodes.drop k).map GnA.d)).2) ∧ Hid (Box wr w.heap.size #[.slice qv vals.length cv,.slice qn nodes.length cn,.slice qi inp.length ci,.slice qo out.length co] 32) ∧ Hid (Below w.heap.size w wr)) (fun iv _ => (intOf iv + 1).toNat)
 case atStart => exact ⟨nodes.length,out.length,_,rfl,rfl,Nat.le_refl _,by simp,hide (by rw [List.drop_length]; simpa [liveP] using uh D5),hide (by rw [List.drop_length]; exact uh M5),X5,B5⟩
 case round =>
  obtain ⟨k,cnt,i,rfl,hi0,hk,hc,HD,HK,HX,HB⟩:=hrel
  have hlen:=uh HNL
  cases k with
  | zero =>
    have hi:decide ((0:Int) ≤ i) = false:=by simp; omega
    have e0:Hid (Bm wr sb R):=hide (by rw [uh HR]; simpa using uh HD)
    go_wp2_with fail
    go_ret
    exact ⟨⟨sb,rfl,by have:=uh HSB; omega,uh e0⟩,uh HB⟩
  | succ k =>
    have hi:decide ((0:Int) ≤ i) = true:=by simp; omega
    obtain ⟨j,hj⟩:∃ j:Int,j = (k:Int):=⟨_,rfl⟩
    obtain rfl:i = j:=by omega
    subst hj
    clear hi0
    have hlt:k < nodes.length:=by omega
    have hi2:(k:Int) < (nodes.length:Int):=by omega
    have k0:(0:Int) ≤ (k:Int):=by omega
    have hw1:IntKind.i64.wrap ((k:Int) - 1) = (k:Int) - 1:=by rw [IntKind.wrap_i64]; omega
    obtain ⟨bg,og,hq,hbg,_⟩:=(uh HN).1.lies (show 0 < nodes.length by omega)
    subst hq
    have HGH:=hide (fun v (hv:Below w.heap.size w v) => (⟨Rc.at9 ((uh HN).1.below hv) hlt,gnP.hold ((uh HN).2.2 _ (getD_mem9 hlt)) (Hold.below hv)⟩:At8 v bg (og + k * 40) (gnCells (nodes.getD k noGnA)) ∧ GnIn OK v (nodes.getD k noGnA)))
    have HX0:Hid (GnIn OK w (nodes.getD k noGnA)):=hide ((uh HN).2.2 _ (getD_mem9 hlt))
    have HT:=hide (live_step out hlt)
    have HC1:=sum_drop9 (fun n => n.ins.length) nodes k hlt
    have HC2:=sum_drop_le9 (fun n => n.ins.length) nodes k
    generalize nodes.getD k noGnA = x at HGH HT HC1 HX0
    obtain ⟨PL,hPL⟩:∃ P,liveP out ((nodes.drop (k + 1)).map GnA.d) = P:=⟨_,rfl⟩
    rw [hPL] at HT HD HK
    clear hPL
    obtain ⟨TL,SL⟩:=PL
    simp only at HT HD HK
    have CH:=hide (chasany9_any mb cnt SL x.qo x.co x.outs wr (uh HK) ((uh HGH wr (uh HB)).2.2.2.2.1).1)
    obtain ⟨bb,hbb⟩:∃ b,(x.outs.any fun y => decide (y ∈ SL)) = b:=⟨_,rfl⟩
    rw [hbb] at CH HT
    clear hbb
    have x6:=(uh HX).cell
    have c38:=(uh HGH wr (uh HB)).1 38 _ (gn_38 x)
    have hsum:=uh HSS
    have HCN:Hid (cnt + x.ins.length ≤ out.length + ((nodes.drop k).map fun n => n.ins.length).sum ∧ cnt + x.ins.length ≤ 4611686018427387904):=hide (by omega)
    clear HC1 HC2 hc hsum
    go_upto_region 7 with fail
    go_wp2_with fail
    refine (uh CH).mono ?_
    rintro e w6 ⟨rfl,hb6⟩
    have K6:=hide hb6
    have hsl:k < (List.replicate (k + 1) false ++ TL).length:=by rw [List.length_append,List.length_replicate]; omega
    have d6:=((uh HD).below hb6).at hsl
    have f6:w6.frozen? ⟨sb,k,none⟩ = false:=Mrow.frozen ((uh HD).below hb6) k
    have l6:=((uh HD).below hb6).lt
    obtain ⟨W7,hW7⟩:∃ W,w6.setCell ⟨sb,k,none⟩ (.bool bb) = W:=⟨_,rfl⟩
    have D7:Hid (Bm W7 sb (List.replicate k false ++ (bb :: TL))):=hide (by rw [← hW7,← rep_set9]; exact ((uh HD).below hb6).put hsl bb)
    have S7:Hid (Stay sb w6 W7):=hide (by rw [← hW7]; exact Stay.set8 _)
    have hsm:=uh HSM
    have hsbe:=uh HSB
    have M7:Hid (KM W7 mb cnt SL):=hide (((uh HK).below hb6).stay (uh S7) (by omega))
    have X7:Hid (Box W7 w.heap.size #[.slice qv vals.length cv,.slice (some ⟨bg,og,none⟩) nodes.length cn,.slice qi inp.length ci,.slice qo out.length co] 32):=hide (((uh S7).block (by omega) ((uh HX).below hb6).lt).trans ((uh HX).below hb6))
    have B7:Hid (Below w.heap.size w W7):=hide (bl_tr7 (bl_tr (uh HB) hb6) (bl_mono7 (uh S7).1 (by omega)))
    have d7:W7.cell? ⟨sb,k,none⟩ = some (.bool bb):=by
     have:=(uh D7).at (m:=k) (by rw [List.length_append,List.length_replicate,List.length_cons]; omega)
     rw [rep_get9] at this; exact this
    have x7:=(uh X7).cell
    have c37:=(uh HGH W7 (uh B7)).1 37 _ (gn_37 x)
    clear x6 c38 hb6 hsl
    go_upto_region 8 with fail
    (try rw [hW7])
    clear hW7 d6 f6 l6
    cases bb with
    | false =>
      go_wp2_with fail
      go_roundw
      case rel => exact ⟨k,cnt,_,by go_num,rfl,by omega,by have:=(uh HCN).1; omega,hide (by rw [uh HT]; exact uh D7),hide (by rw [uh HT]; exact uh M7),X7,B7⟩
      case measure => (simp [intOf] <;> omega)
    | true =>
      have CA:=hide (cmadd9_any mb cnt SL x.qi x.ci x.ins W7 (uh M7) ((uh HGH W7 (uh B7)).2.2.2.1).1 (fun b' o e hp => by
       have:=(uh HX0).2.2.1.1.ls.inB b' o e hp
       omega) (uh HCN).2)
      go_wp2_with fail
      refine (uh CA).mono ?_
      rintro e w8 ⟨rfl,hK8,hS8⟩
      have M8:=hide hK8
      have D8:Hid (Bm w8 sb (List.replicate k false ++ (true :: TL))):=hide ((uh D7).stay hS8 (by omega))
      have X8:Hid (Box w8 w.heap.size #[.slice qv vals.length cv,.slice (some ⟨bg,og,none⟩) nodes.length cn,.slice qi inp.length ci,.slice qo out.length co] 32):=hide ((hS8.block (by omega) (uh X7).lt).trans (uh X7))
      have B8:Hid (Below w.heap.size w w8):=hide (bl_tr7 (uh B7) (bl_mono7 hS8.1 (by omega)))
      clear hK8 hS8 x7 c37 d7
      go_wp2_with fail
      go_roundw
      case rel => exact ⟨k,cnt + x.ins.length,_,by go_num,rfl,by omega,(uh HCN).1,hide (by rw [uh HT]; exact uh D8),hide (by rw [uh HT]; exact uh M8),X8,B8⟩
      case measure => (simp [intOf] <;> omega)
end Go.Proofs.YtbmmcbagdomonaaGreat
