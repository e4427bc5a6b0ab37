import Derived.Deep.RegionHeld3
import Derived.Test.YtmdlaahdgjegcaaGreatV36
set_option maxRecDepth 100000
set_option maxHeartbeats 8000000
namespace Go.Proofs.YtmdlaahdgjegcaaGreat
open Go.RowKit
set_option linter.unusedVariables false
theorem vad_eq (a b:VaA):(a.d = b.d) ↔ (a.nm = b.nm ∧ a.ty = b.ty ∧ a.ds = b.ds):=by
 unfold VaA.d
 simp only [Prod.mk.injEq]
theorem map_take_ne {α β:Type} {f:α → β} {z:α} {xs ys:List α} {n:Nat} (h1:n < xs.length) (h2:n < ys.length) (e:¬ f (xs.getD n z) = f (ys.getD n z)):¬ xs.map f = ys.map f:=fun h => e (by
 have h3:=congrArg (fun l => l[n]?) h
 simp only [List.getElem?_map,List.getElem?_eq_getElem h1,List.getElem?_eq_getElem h2,Option.map_some,Option.some.injEq] at h3
 rw [List.getD_eq_getElem?_getD,List.getD_eq_getElem?_getD,List.getElem?_eq_getElem h1,List.getElem?_eq_getElem h2]
 exact h3)
theorem rvals7_any (p q:Option Addr) (c c':Nat) (xs ys:List VaA) {B:Nat} (w:World) (h1:Rc 3 vaCells noVaA w p c xs) (h2:Rc 3 vaCells noVaA w q c' ys) (i1:∀ x ∈ xs,VaIn B w x) (i2:∀ x ∈ ys,VaIn B w x) :
  Calls Tryz.prog 33 #[.slice p xs.length c,.slice q ys.length c'] w fun e w' => e = .returned (.bool (decide (xs.map VaA.d = ys.map VaA.d))) ∧ Below w.heap.size w w':=by
 have H1:=hide h1
 have H2:=hide h2
 have I1:=hide i1
 have I2:=hide i2
 have hl1:=h1.len
 have hl2:=h2.len
 obtain ⟨R,hR⟩:∃ R,decide (xs.map VaA.d = ys.map VaA.d) = R:=⟨_,rfl⟩
 have HR:=hide hR
 rw [hR]
 clear h1 h2 i1 i2 hR
 by_cases hl:xs.length = ys.length
 ·have hli:((xs.length:Int) != (ys.length:Int)) = false:=bneFp (by omega)
  have HL:=hide hl
  clear hl
  go_enter Tryz.func33,Tryz.ntmps33
  go_wp2_with fail
  go_loopw [5] (fun iv wr => ∃ n:Nat,iv = .int .i64 n ∧ n ≤ xs.length ∧ Hid ((xs.take n).map VaA.d = (ys.take n).map VaA.d) ∧ Hid (Below w.heap.size w wr)) (fun iv _ => xs.length - (intOf iv).toNat)
  case atStart => exact ⟨0,rfl,by omega,hide (by simp),hide (Below.refl _ _)⟩
  case round =>
   obtain ⟨n,rfl,hn,HT,HB⟩:=hrel
   by_cases hlt:n < xs.length
   ·have hlt2:n < ys.length:=by rw [← uh HL]; exact hlt
    have hi:(n:Int) < (xs.length:Int):=by omega
    have hi2:(n:Int) < (ys.length:Int):=by omega
    obtain ⟨b,o,rfl,hb,hc⟩:=((uh H1).below (uh HB)).lies (by omega)
    obtain ⟨b',o',rfl,hb',hc'⟩:=((uh H2).below (uh HB)).lies (by omega)
    have k0:wr.cell? ⟨b,o + n * 3,none⟩ = some (strV (xs.getD n noVaA).nm):=hc n hlt 0 _ rfl
    have k1:wr.cell? ⟨b,o + n * 3 + 1,none⟩ = some (.int .i64 (xs.getD n noVaA).ty):=hc n hlt 1 _ rfl
    have k2:wr.cell? ⟨b,o + n * 3 + 2,none⟩ = some (.slice (xs.getD n noVaA).q (xs.getD n noVaA).ds.length (xs.getD n noVaA).c):=hc n hlt 2 _ rfl
    have m0:wr.cell? ⟨b',o' + n * 3,none⟩ = some (strV (ys.getD n noVaA).nm):=hc' n hlt2 0 _ rfl
    have m1:wr.cell? ⟨b',o' + n * 3 + 1,none⟩ = some (.int .i64 (ys.getD n noVaA).ty):=hc' n hlt2 1 _ rfl
    have m2:wr.cell? ⟨b',o' + n * 3 + 2,none⟩ = some (.slice (ys.getD n noVaA).q (ys.getD n noVaA).ds.length (ys.getD n noVaA).c):=hc' n hlt2 2 _ rfl
    have hx:=(uh I1) _ (getD_mem7 (z:=noVaA) hlt)
    have hy:=(uh I2) _ (getD_mem7 (z:=noVaA) hlt2)
    have T1:=hide (map_take7 VaA.d noVaA xs n hlt)
    have T2:=hide (map_take7 VaA.d noVaA ys n hlt2)
    have NE:=hide (map_take_ne (f:=VaA.d) (z:=noVaA) hlt hlt2)
    have CS:=hide (fun v (hv:Below wr.heap.size wr v) => rsame7_any (xs.getD n noVaA).q (ys.getD n noVaA).q (xs.getD n noVaA).c (ys.getD n noVaA).c (xs.getD n noVaA).ds (ys.getD n noVaA).ds v (hx.2.2.1.below (bl_tr (uh HB) hv)) (hy.2.2.1.below (bl_tr (uh HB) hv)))
    have hx1:=hx.1
    have hy1:=hy.1
    clear hc hc' hx hy hlt2
    generalize xs.getD n noVaA = x at k0 k1 k2 T1 NE CS hx1
    generalize ys.getD n noVaA = y at m0 m1 m2 T2 NE CS hy1
    unfold strV at k0 m0
    have FE:Hid (¬ x.d = y.d → false = R):=hide (fun h => by rw [← uh HR,decide_eq_false (uh NE h)])
    by_cases e1:x.nm = y.nm
    rotate_left
    ·have t1:((strOfNums x.nm).toList == (strOfNums y.nm).toList) = false:=str_ne hx1 hy1 e1
     have HE:=hide (uh FE (fun h => e1 ((vad_eq x y).1 h).1))
     clear FE NE T1 T2 CS HT
     go_wp2_with fail
     go_region
     go_wp2_with fail
     go_ret
     exact ⟨ret_bool (uh HE),bl_tr (uh HB) (bdrewp _)⟩
    by_cases e2:x.ty = y.ty
    rotate_left
    ·have t1:((strOfNums x.nm).toList == (strOfNums y.nm).toList) = true:=by rw [e1]; simp
     have t2:(x.ty != y.ty) = true:=bneTp e2
     have HE:=hide (uh FE (fun h => e2 ((vad_eq x y).1 h).2.1))
     clear FE NE T1 T2 CS HT e1 e2
     go_wp2_with fail
     go_region
     go_wp2_with fail
     go_ret
     exact ⟨ret_bool (uh HE),bl_tr (uh HB) (bdrewp _)⟩
    have t1:((strOfNums x.nm).toList == (strOfNums y.nm).toList) = true:=by rw [e1]; simp
    have t2:(x.ty != y.ty) = false:=bneFp e2
    have k0d:wr.drew.cell? ⟨b,o + n * 3,none⟩ = some (.string (strOfNums x.nm)):=((bdrewp wr).cell (p:=⟨b,o + n * 3,none⟩) hb).trans k0
    have k1d:wr.drew.cell? ⟨b,o + n * 3 + 1,none⟩ = some (.int .i64 x.ty):=((bdrewp wr).cell (p:=⟨b,o + n * 3 + 1,none⟩) hb).trans k1
    have k2d:wr.drew.cell? ⟨b,o + n * 3 + 2,none⟩ = some (.slice x.q x.ds.length x.c):=((bdrewp wr).cell (p:=⟨b,o + n * 3 + 2,none⟩) hb).trans k2
    have m0d:wr.drew.cell? ⟨b',o' + n * 3,none⟩ = some (.string (strOfNums y.nm)):=((bdrewp wr).cell (p:=⟨b',o' + n * 3,none⟩) hb').trans m0
    have m1d:wr.drew.cell? ⟨b',o' + n * 3 + 1,none⟩ = some (.int .i64 y.ty):=((bdrewp wr).cell (p:=⟨b',o' + n * 3 + 1,none⟩) hb').trans m1
    have m2d:wr.drew.cell? ⟨b',o' + n * 3 + 2,none⟩ = some (.slice y.q y.ds.length y.c):=((bdrewp wr).cell (p:=⟨b',o' + n * 3 + 2,none⟩) hb').trans m2
    by_cases e3:x.ds = y.ds
    ·have HE:Hid ((xs.take (n + 1)).map VaA.d = (ys.take (n + 1)).map VaA.d):=hide (by rw [uh T1,uh T2,uh HT,(vad_eq x y).2 ⟨e1,e2,e3⟩])
     rw [decide_eq_true e3] at CS
     clear FE NE T1 T2 HT e1 e2 e3
     go_wp2_with fail
     go_region_held3 (fun v => v.cell? ⟨b,o + n * 3,none⟩ = some (.string (strOfNums x.nm)) ∧ v.cell? ⟨b,o + n * 3 + 1,none⟩ = some (.int .i64 x.ty) ∧ v.cell? ⟨b,o + n * 3 + 2,none⟩ = some (.slice x.q x.ds.length x.c) ∧ v.cell? ⟨b',o' + n * 3,none⟩ = some (.string (strOfNums y.nm)) ∧ v.cell? ⟨b',o' + n * 3 + 1,none⟩ = some (.int .i64 y.ty) ∧ v.cell? ⟨b',o' + n * 3 + 2,none⟩ = some (.slice y.q y.ds.length y.c)) (refine ⟨?_,?_,?_,?_,?_,?_⟩ <;> with_reducible assumption)
     (first
      | (go_at_call 73; (refine (uh CS _ (bdrewp _)).mono ?_; rintro e w5 ⟨rfl,hb5⟩; have k0e:w5.cell? ⟨b,o + n * 3,none⟩ = some (.string (strOfNums x.nm)):=((bl_tr (bdrewp wr) hb5).cell (p:=⟨b,o + n * 3,none⟩) hb).trans k0; have k1e:w5.cell? ⟨b,o + n * 3 + 1,none⟩ = some (.int .i64 x.ty):=((bl_tr (bdrewp wr) hb5).cell (p:=⟨b,o + n * 3 + 1,none⟩) hb).trans k1; have k2e:w5.cell? ⟨b,o + n * 3 + 2,none⟩ = some (.slice x.q x.ds.length x.c):=((bl_tr (bdrewp wr) hb5).cell (p:=⟨b,o + n * 3 + 2,none⟩) hb).trans k2; have m0e:w5.cell? ⟨b',o' + n * 3,none⟩ = some (.string (strOfNums y.nm)):=((bl_tr (bdrewp wr) hb5).cell (p:=⟨b',o' + n * 3,none⟩) hb').trans m0; have m1e:w5.cell? ⟨b',o' + n * 3 + 1,none⟩ = some (.int .i64 y.ty):=((bl_tr (bdrewp wr) hb5).cell (p:=⟨b',o' + n * 3 + 1,none⟩) hb').trans m1; have m2e:w5.cell? ⟨b',o' + n * 3 + 2,none⟩ = some (.slice y.q y.ds.length y.c):=((bl_tr (bdrewp wr) hb5).cell (p:=⟨b',o' + n * 3 + 2,none⟩) hb').trans m2; have B5:=hide (bl_tr (uh HB) (bl_tr (bdrewp wr) hb5)); clear hb5)))
     go_wp2_with fail
     go_roundw
     case rel => exact ⟨n + 1,by go_num,by omega,HE,B5⟩
     case measure => simp [intOf]; omega
    ·have HE:=hide (uh FE (fun h => e3 ((vad_eq x y).1 h).2.2))
     rw [decide_eq_false e3] at CS
     clear FE NE T1 T2 HT e1 e2 e3
     go_wp2_with fail
     go_region_held3 (fun v => v.cell? ⟨b,o + n * 3,none⟩ = some (.string (strOfNums x.nm)) ∧ v.cell? ⟨b,o + n * 3 + 1,none⟩ = some (.int .i64 x.ty) ∧ v.cell? ⟨b,o + n * 3 + 2,none⟩ = some (.slice x.q x.ds.length x.c) ∧ v.cell? ⟨b',o' + n * 3,none⟩ = some (.string (strOfNums y.nm)) ∧ v.cell? ⟨b',o' + n * 3 + 1,none⟩ = some (.int .i64 y.ty) ∧ v.cell? ⟨b',o' + n * 3 + 2,none⟩ = some (.slice y.q y.ds.length y.c)) (refine ⟨?_,?_,?_,?_,?_,?_⟩ <;> with_reducible assumption)
     (first
      | (go_at_call 73; (refine (uh CS _ (bdrewp _)).mono ?_; rintro e w5 ⟨rfl,hb5⟩; have k0e:w5.cell? ⟨b,o + n * 3,none⟩ = some (.string (strOfNums x.nm)):=((bl_tr (bdrewp wr) hb5).cell (p:=⟨b,o + n * 3,none⟩) hb).trans k0; have k1e:w5.cell? ⟨b,o + n * 3 + 1,none⟩ = some (.int .i64 x.ty):=((bl_tr (bdrewp wr) hb5).cell (p:=⟨b,o + n * 3 + 1,none⟩) hb).trans k1; have k2e:w5.cell? ⟨b,o + n * 3 + 2,none⟩ = some (.slice x.q x.ds.length x.c):=((bl_tr (bdrewp wr) hb5).cell (p:=⟨b,o + n * 3 + 2,none⟩) hb).trans k2; have m0e:w5.cell? ⟨b',o' + n * 3,none⟩ = some (.string (strOfNums y.nm)):=((bl_tr (bdrewp wr) hb5).cell (p:=⟨b',o' + n * 3,none⟩) hb').trans m0; have m1e:w5.cell? ⟨b',o' + n * 3 + 1,none⟩ = some (.int .i64 y.ty):=((bl_tr (bdrewp wr) hb5).cell (p:=⟨b',o' + n * 3 + 1,none⟩) hb').trans m1; have m2e:w5.cell? ⟨b',o' + n * 3 + 2,none⟩ = some (.slice y.q y.ds.length y.c):=((bl_tr (bdrewp wr) hb5).cell (p:=⟨b',o' + n * 3 + 2,none⟩) hb').trans m2; have B5:=hide (bl_tr (uh HB) (bl_tr (bdrewp wr) hb5)); clear hb5)))
     go_wp2_with fail
     go_ret
     exact ⟨ret_bool (uh HE),uh B5⟩
   ·have hi:¬ (n:Int) < (xs.length:Int):=by omega
    have HE:Hid (true = R):=hide (by
     rw [← uh HR]
     have h3:=uh HT
     rw [List.take_of_length_le (by omega),List.take_of_length_le (by have:=uh HL; omega)] at h3
     rw [decide_eq_true h3])
    clear HT
    go_wp2_with fail
    go_ret
    exact ⟨ret_bool (uh HE),uh HB⟩
 ·have hli:((xs.length:Int) != (ys.length:Int)) = true:=bneTp (by omega)
  have HE:Hid (false = R):=hide (by
   rw [← uh HR,decide_eq_false (fun h => hl (by have:=congrArg List.length h; simpa using this))])
  clear hl
  go_enter Tryz.func33,Tryz.ntmps33
  go_wp2_with fail
  go_ret
  exact ⟨ret_bool (uh HE),Below.refl _ _⟩
end Go.Proofs.YtmdlaahdgjegcaaGreat
