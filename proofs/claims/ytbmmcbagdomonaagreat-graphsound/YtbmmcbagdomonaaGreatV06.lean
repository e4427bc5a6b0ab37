import Derived.Test.YtbmmcbagdomonaaGreatV05
set_option maxRecDepth 100000
set_option maxHeartbeats 40000000
namespace Go.Proofs.YtbmmcbagdomonaaGreat
open Go.RowKit
set_option linter.unusedVariables false
def Ent (K:FuncId):Prop:=∀ (args:Array Value) (v:World),(callFunc K args).run Tryz.prog v = .ok (.enter K args) v
theorem any_take7 {α:Type} (P:α → Bool) (z:α) (l:List α) (n:Nat) (h:n < l.length):(l.take (n + 1)).any P = ((l.take n).any P || P (l.getD n z)):=by
 rw [List.take_add_one,List.any_append,List.getD_eq_getElem?_getD,List.getElem?_eq_getElem h]
 simp
theorem getD_mem7 {α:Type} {z:α} {l:List α} {i:Nat} (h:i < l.length):l.getD i z ∈ l:=by
 rw [List.getD_eq_getElem?_getD,List.getElem?_eq_getElem h]; simp
theorem ent_of {f:FuncId} {fn:Func} {c:Code} (hf:Tryz.prog.funcs[f]? = some fn) (hname:(fn.name == "runtime.NumGoroutine") = false) (hb:fn.body = some c):Ent f:=by
 intro args w
 have h1:fn.name ≠ "runtime.NumGoroutine":=by simpa using hname
 simp [callFunc,hf,h1,hb,mark]
theorem any_mem7 {α:Type} {P:α → Bool} {z:α} {l:List α} {n:Nat} (h:n < l.length) (hp:P (l.getD n z) = true):l.any P = true:=List.any_eq_true.2 ⟨_,getD_mem7 h,hp⟩
theorem cidxNode_any (K:FuncId) (hK:Ent K) (caps:Array Value) (P:NoA → Bool) (p:Option Addr) (c:Nat) (l:List NoA) (w:World) (h:Rc 5 noCells noNoA w p c l)
  (H:∀ v,Below w.heap.size w v → ∀ x ∈ l,Calls Tryz.prog K (#[.agg (noCells x).toArray] ++ caps) v fun e w' => e = .returned (.bool (P x)) ∧ Below v.heap.size v w') :
  Calls Tryz.prog 127 #[.slice p l.length c,.func (.func K) #[] caps] w fun e w' => (∃ r:Int,e = .returned (.int .i64 r) ∧ decide (0 ≤ r) = l.any P) ∧ Below w.heap.size w w':=by
 have hk:∀ (args:Array Value) (v:World),(callFunc K args).run Tryz.prog v = .ok (.enter K args) v:=hK
 have A1:=hide h
 have HH:=hide H
 clear hK
 have nl:=h.len
 clear h H
 go_enter Tryz.func127,Tryz.ntmps127
 go_wp2_with fail
 go_loopw [8] (fun iv wr => ∃ n:Nat,iv = .int .i64 n ∧ n ≤ l.length ∧ Hid ((l.take n).any P = false) ∧ Hid (Below w.heap.size w wr)) (fun iv _ => l.length - (intOf iv).toNat)
 case atStart => exact ⟨0,rfl,by omega,hide rfl,hide (Below.refl _ _)⟩
 case round =>
  obtain ⟨n,rfl,hn,HN,HB⟩:=hrel
  by_cases hlt:n < l.length
  ·have hi:(n:Int) < (l.length:Int):=by omega
   obtain ⟨b,o,rfl,hb,hc⟩:=((uh A1).below (uh HB)).lies (by omega)
   have k0:wr.cell? ⟨b,o + n * 5,none⟩ = some (strV (l.getD n noNoA).op):=hc n hlt 0 _ rfl
   have k1:wr.cell? ⟨b,o + n * 5 + 1,none⟩ = some (strV (l.getD n noNoA).nm):=hc n hlt 1 _ rfl
   have k2:wr.cell? ⟨b,o + n * 5 + 2,none⟩ = some (.slice (l.getD n noNoA).qi (l.getD n noNoA).ins.length (l.getD n noNoA).ci):=hc n hlt 2 _ rfl
   have k3:wr.cell? ⟨b,o + n * 5 + 3,none⟩ = some (.slice (l.getD n noNoA).qo (l.getD n noNoA).outs.length (l.getD n noNoA).co):=hc n hlt 3 _ rfl
   have k4:wr.cell? ⟨b,o + n * 5 + 4,none⟩ = some (.slice (l.getD n noNoA).qa (l.getD n noNoA).at'.length (l.getD n noNoA).ca):=hc n hlt 4 _ rfl
   have HX:=hide (fun v (hv:Below wr.heap.size wr v) => uh HH v (bl_tr (uh HB) hv) (l.getD n noNoA) (getD_mem7 hlt))
   have HT:=hide (any_take7 P noNoA l n hlt)
   have HM:=hide (any_mem7 (P:=P) (z:=noNoA) hlt)
   generalize P (l.getD n noNoA) = D at HX HT HM
   generalize l.getD n noNoA = a at k0 k1 k2 k3 k4 HX
   unfold noCells strV at HX
   unfold strV at *
   clear hc
   cases D
   ·have HN2:Hid ((l.take (n + 1)).any P = false):=hide (by rw [uh HT,uh HN]; rfl)
    clear HT HM HN
    go_wp2_with fail
    refine (uh HX _ (Below.refl _ _)).mono ?_
    rintro e w1 ⟨rfl,hb1⟩
    have BB:=hide (bl_tr (uh HB) hb1)
    clear hb1
    go_wp2_with fail
    go_roundw
    case rel => exact ⟨n + 1,by go_num,by omega,HN2,BB⟩
    case measure => simp [intOf]; omega
   ·have HE:=hide (uh HM rfl)
    clear HT HM HN
    go_wp2_with fail
    refine (uh HX _ (Below.refl _ _)).mono ?_
    rintro e w1 ⟨rfl,hb1⟩
    have BB:=hide (bl_tr (uh HB) hb1)
    clear hb1
    go_wp2_with fail
    go_ret
    exact ⟨⟨n,rfl,by rw [uh HE]; simp⟩,uh BB⟩
  ·have hi:¬ (n:Int) < (l.length:Int):=by omega
   have HE:Hid (l.any P = false):=hide (by have:=uh HN; rw [List.take_of_length_le (by omega)] at this; exact this)
   clear HN
   go_wp2_with fail
   go_ret
   exact ⟨⟨-1,rfl,by rw [uh HE]; rfl⟩,uh HB⟩
theorem ccontNode_any (K:FuncId) (hK:Ent K) (caps:Array Value) (P:NoA → Bool) (p:Option Addr) (c:Nat) (l:List NoA) (w:World) (h:Rc 5 noCells noNoA w p c l)
  (H:∀ v,Below w.heap.size w v → ∀ x ∈ l,Calls Tryz.prog K (#[.agg (noCells x).toArray] ++ caps) v fun e w' => e = .returned (.bool (P x)) ∧ Below v.heap.size v w') :
  Calls Tryz.prog 95 #[.slice p l.length c,.func (.func K) #[] caps] w fun e w' => e = .returned (.bool (l.any P)) ∧ Below w.heap.size w w':=by
 have IX:=hide (cidxNode_any K hK caps P p c l w h H)
 generalize l.any P = D at IX ⊢
 clear h H
 go_enter Tryz.func95,Tryz.ntmps95
 go_wp2_with fail
 refine (uh IX).mono ?_
 rintro e v ⟨⟨r,rfl,hr⟩,hb⟩
 have HR:=hide hr
 have HB:=hide hb
 clear hr hb
 go_wp2_with fail
 go_ret
 exact ⟨ret_bool (uh HR),uh HB⟩
theorem cidxInit_any (K:FuncId) (hK:Ent K) (caps:Array Value) (P:InA → Bool) (p:Option Addr) (c:Nat) (l:List InA) (w:World) (h:Rc 6 inCells noInA w p c l)
  (H:∀ v,Below w.heap.size w v → ∀ x ∈ l,Calls Tryz.prog K (#[.agg (inCells x).toArray] ++ caps) v fun e w' => e = .returned (.bool (P x)) ∧ Below v.heap.size v w') :
  Calls Tryz.prog 131 #[.slice p l.length c,.func (.func K) #[] caps] w fun e w' => (∃ r:Int,e = .returned (.int .i64 r) ∧ decide (0 ≤ r) = l.any P) ∧ Below w.heap.size w w':=by
 have hk:∀ (args:Array Value) (v:World),(callFunc K args).run Tryz.prog v = .ok (.enter K args) v:=hK
 have A1:=hide h
 have HH:=hide H
 clear hK
 have nl:=h.len
 clear h H
 go_enter Tryz.func131,Tryz.ntmps131
 go_wp2_with fail
 go_loopw [8] (fun iv wr => ∃ n:Nat,iv = .int .i64 n ∧ n ≤ l.length ∧ Hid ((l.take n).any P = false) ∧ Hid (Below w.heap.size w wr)) (fun iv _ => l.length - (intOf iv).toNat)
 case atStart => exact ⟨0,rfl,by omega,hide rfl,hide (Below.refl _ _)⟩
 case round =>
  obtain ⟨n,rfl,hn,HN,HB⟩:=hrel
  by_cases hlt:n < l.length
  ·have hi:(n:Int) < (l.length:Int):=by omega
   obtain ⟨b,o,rfl,hb,hc⟩:=((uh A1).below (uh HB)).lies (by omega)
   have k0:wr.cell? ⟨b,o + n * 6,none⟩ = some (strV (l.getD n noInA).nm):=hc n hlt 0 _ rfl
   have k1:wr.cell? ⟨b,o + n * 6 + 1,none⟩ = some (.int .i64 (l.getD n noInA).T.1):=hc n hlt 1 _ rfl
   have k2:wr.cell? ⟨b,o + n * 6 + 2,none⟩ = some (.slice (l.getD n noInA).A.pd (l.getD n noInA).T.2.1.length (l.getD n noInA).A.cd):=hc n hlt 2 _ rfl
   have k3:wr.cell? ⟨b,o + n * 6 + 3,none⟩ = some (.slice (l.getD n noInA).A.pf (l.getD n noInA).T.2.2.1.length (l.getD n noInA).A.cf):=hc n hlt 3 _ rfl
   have k4:wr.cell? ⟨b,o + n * 6 + 4,none⟩ = some (.slice (l.getD n noInA).A.pi (l.getD n noInA).T.2.2.2.1.length (l.getD n noInA).A.ci):=hc n hlt 4 _ rfl
   have k5:wr.cell? ⟨b,o + n * 6 + 5,none⟩ = some (.slice (l.getD n noInA).A.pb (l.getD n noInA).T.2.2.2.2.length (l.getD n noInA).A.cb):=hc n hlt 5 _ rfl
   have HX:=hide (fun v (hv:Below wr.heap.size wr v) => uh HH v (bl_tr (uh HB) hv) (l.getD n noInA) (getD_mem7 hlt))
   have HT:=hide (any_take7 P noInA l n hlt)
   have HM:=hide (any_mem7 (P:=P) (z:=noInA) hlt)
   generalize P (l.getD n noInA) = D at HX HT HM
   generalize l.getD n noInA = a at k0 k1 k2 k3 k4 k5 HX
   unfold inCells tenCells strV at HX
   unfold strV at *
   clear hc
   cases D
   ·have HN2:Hid ((l.take (n + 1)).any P = false):=hide (by rw [uh HT,uh HN]; rfl)
    clear HT HM HN
    go_wp2_with fail
    refine (uh HX _ (Below.refl _ _)).mono ?_
    rintro e w1 ⟨rfl,hb1⟩
    have BB:=hide (bl_tr (uh HB) hb1)
    clear hb1
    go_wp2_with fail
    go_roundw
    case rel => exact ⟨n + 1,by go_num,by omega,HN2,BB⟩
    case measure => simp [intOf]; omega
   ·have HE:=hide (uh HM rfl)
    clear HT HM HN
    go_wp2_with fail
    refine (uh HX _ (Below.refl _ _)).mono ?_
    rintro e w1 ⟨rfl,hb1⟩
    have BB:=hide (bl_tr (uh HB) hb1)
    clear hb1
    go_wp2_with fail
    go_ret
    exact ⟨⟨n,rfl,by rw [uh HE]; simp⟩,uh BB⟩
  ·have hi:¬ (n:Int) < (l.length:Int):=by omega
   have HE:Hid (l.any P = false):=hide (by have:=uh HN; rw [List.take_of_length_le (by omega)] at this; exact this)
   clear HN
   go_wp2_with fail
   go_ret
   exact ⟨⟨-1,rfl,by rw [uh HE]; rfl⟩,uh HB⟩
theorem ccontInit_any (K:FuncId) (hK:Ent K) (caps:Array Value) (P:InA → Bool) (p:Option Addr) (c:Nat) (l:List InA) (w:World) (h:Rc 6 inCells noInA w p c l)
  (H:∀ v,Below w.heap.size w v → ∀ x ∈ l,Calls Tryz.prog K (#[.agg (inCells x).toArray] ++ caps) v fun e w' => e = .returned (.bool (P x)) ∧ Below v.heap.size v w') :
  Calls Tryz.prog 97 #[.slice p l.length c,.func (.func K) #[] caps] w fun e w' => e = .returned (.bool (l.any P)) ∧ Below w.heap.size w w':=by
 have IX:=hide (cidxInit_any K hK caps P p c l w h H)
 generalize l.any P = D at IX ⊢
 clear h H
 go_enter Tryz.func97,Tryz.ntmps97
 go_wp2_with fail
 refine (uh IX).mono ?_
 rintro e v ⟨⟨r,rfl,hr⟩,hb⟩
 have HR:=hide hr
 have HB:=hide hb
 clear hr hb
 go_wp2_with fail
 go_ret
 exact ⟨ret_bool (uh HR),uh HB⟩
theorem cidxValue_any (K:FuncId) (hK:Ent K) (caps:Array Value) (P:VaA → Bool) (p:Option Addr) (c:Nat) (l:List VaA) (w:World) (h:Rc 3 vaCells noVaA w p c l)
  (H:∀ v,Below w.heap.size w v → ∀ x ∈ l,Calls Tryz.prog K (#[.agg (vaCells x).toArray] ++ caps) v fun e w' => e = .returned (.bool (P x)) ∧ Below v.heap.size v w') :
  Calls Tryz.prog 133 #[.slice p l.length c,.func (.func K) #[] caps] w fun e w' => (∃ r:Int,e = .returned (.int .i64 r) ∧ decide (0 ≤ r) = l.any P) ∧ Below w.heap.size w w':=by
 have hk:∀ (args:Array Value) (v:World),(callFunc K args).run Tryz.prog v = .ok (.enter K args) v:=hK
 have A1:=hide h
 have HH:=hide H
 clear hK
 have nl:=h.len
 clear h H
 go_enter Tryz.func133,Tryz.ntmps133
 go_wp2_with fail
 go_loopw [8] (fun iv wr => ∃ n:Nat,iv = .int .i64 n ∧ n ≤ l.length ∧ Hid ((l.take n).any P = false) ∧ Hid (Below w.heap.size w wr)) (fun iv _ => l.length - (intOf iv).toNat)
 case atStart => exact ⟨0,rfl,by omega,hide rfl,hide (Below.refl _ _)⟩
 case round =>
  obtain ⟨n,rfl,hn,HN,HB⟩:=hrel
  by_cases hlt:n < l.length
  ·have hi:(n:Int) < (l.length:Int):=by omega
   obtain ⟨b,o,rfl,hb,hc⟩:=((uh A1).below (uh HB)).lies (by omega)
   have k0:wr.cell? ⟨b,o + n * 3,none⟩ = some (strV (l.getD n noVaA).nm):=hc n hlt 0 _ rfl
   have k1:wr.cell? ⟨b,o + n * 3 + 1,none⟩ = some (.int .i64 (l.getD n noVaA).ty):=hc n hlt 1 _ rfl
   have k2:wr.cell? ⟨b,o + n * 3 + 2,none⟩ = some (.slice (l.getD n noVaA).q (l.getD n noVaA).ds.length (l.getD n noVaA).c):=hc n hlt 2 _ rfl
   have HX:=hide (fun v (hv:Below wr.heap.size wr v) => uh HH v (bl_tr (uh HB) hv) (l.getD n noVaA) (getD_mem7 hlt))
   have HT:=hide (any_take7 P noVaA l n hlt)
   have HM:=hide (any_mem7 (P:=P) (z:=noVaA) hlt)
   generalize P (l.getD n noVaA) = D at HX HT HM
   generalize l.getD n noVaA = a at k0 k1 k2 HX
   unfold vaCells strV at HX
   unfold strV at *
   clear hc
   cases D
   ·have HN2:Hid ((l.take (n + 1)).any P = false):=hide (by rw [uh HT,uh HN]; rfl)
    clear HT HM HN
    go_wp2_with fail
    refine (uh HX _ (Below.refl _ _)).mono ?_
    rintro e w1 ⟨rfl,hb1⟩
    have BB:=hide (bl_tr (uh HB) hb1)
    clear hb1
    go_wp2_with fail
    go_roundw
    case rel => exact ⟨n + 1,by go_num,by omega,HN2,BB⟩
    case measure => simp [intOf]; omega
   ·have HE:=hide (uh HM rfl)
    clear HT HM HN
    go_wp2_with fail
    refine (uh HX _ (Below.refl _ _)).mono ?_
    rintro e w1 ⟨rfl,hb1⟩
    have BB:=hide (bl_tr (uh HB) hb1)
    clear hb1
    go_wp2_with fail
    go_ret
    exact ⟨⟨n,rfl,by rw [uh HE]; simp⟩,uh BB⟩
  ·have hi:¬ (n:Int) < (l.length:Int):=by omega
   have HE:Hid (l.any P = false):=hide (by have:=uh HN; rw [List.take_of_length_le (by omega)] at this; exact this)
   clear HN
   go_wp2_with fail
   go_ret
   exact ⟨⟨-1,rfl,by rw [uh HE]; rfl⟩,uh HB⟩
theorem ccontValue_any (K:FuncId) (hK:Ent K) (caps:Array Value) (P:VaA → Bool) (p:Option Addr) (c:Nat) (l:List VaA) (w:World) (h:Rc 3 vaCells noVaA w p c l)
  (H:∀ v,Below w.heap.size w v → ∀ x ∈ l,Calls Tryz.prog K (#[.agg (vaCells x).toArray] ++ caps) v fun e w' => e = .returned (.bool (P x)) ∧ Below v.heap.size v w') :
  Calls Tryz.prog 99 #[.slice p l.length c,.func (.func K) #[] caps] w fun e w' => e = .returned (.bool (l.any P)) ∧ Below w.heap.size w w':=by
 have IX:=hide (cidxValue_any K hK caps P p c l w h H)
 generalize l.any P = D at IX ⊢
 clear h H
 go_enter Tryz.func99,Tryz.ntmps99
 go_wp2_with fail
 refine (uh IX).mono ?_
 rintro e v ⟨⟨r,rfl,hr⟩,hb⟩
 have HR:=hide hr
 have HB:=hide hb
 clear hr hb
 go_wp2_with fail
 go_ret
 exact ⟨ret_bool (uh HR),uh HB⟩
theorem cidxAttr_any (K:FuncId) (hK:Ent K) (caps:Array Value) (P:AtA → Bool) (p:Option Addr) (c:Nat) (l:List AtA) (w:World) (h:Rc 12 atCells noAtA w p c l)
  (H:∀ v,Below w.heap.size w v → ∀ x ∈ l,Calls Tryz.prog K (#[.agg (atCells x).toArray] ++ caps) v fun e w' => e = .returned (.bool (P x)) ∧ Below v.heap.size v w') :
  Calls Tryz.prog 155 #[.slice p l.length c,.func (.func K) #[] caps] w fun e w' => (∃ r:Int,e = .returned (.int .i64 r) ∧ decide (0 ≤ r) = l.any P) ∧ Below w.heap.size w w':=by
 have hk:∀ (args:Array Value) (v:World),(callFunc K args).run Tryz.prog v = .ok (.enter K args) v:=hK
 have A1:=hide h
 have HH:=hide H
 clear hK
 have nl:=h.len
 clear h H
 go_enter Tryz.func155,Tryz.ntmps155
 go_wp2_with fail
 go_loopw [8] (fun iv wr => ∃ n:Nat,iv = .int .i64 n ∧ n ≤ l.length ∧ Hid ((l.take n).any P = false) ∧ Hid (Below w.heap.size w wr)) (fun iv _ => l.length - (intOf iv).toNat)
 case atStart => exact ⟨0,rfl,by omega,hide rfl,hide (Below.refl _ _)⟩
 case round =>
  obtain ⟨n,rfl,hn,HN,HB⟩:=hrel
  by_cases hlt:n < l.length
  ·have hi:(n:Int) < (l.length:Int):=by omega
   obtain ⟨b,o,rfl,hb,hc⟩:=((uh A1).below (uh HB)).lies (by omega)
   have k0:wr.cell? ⟨b,o + n * 12,none⟩ = some (strV (l.getD n noAtA).nm):=hc n hlt 0 _ rfl
   have k1:wr.cell? ⟨b,o + n * 12 + 1,none⟩ = some (.int .i64 (l.getD n noAtA).kd):=hc n hlt 1 _ rfl
   have k2:wr.cell? ⟨b,o + n * 12 + 2,none⟩ = some (.int .u32 (l.getD n noAtA).f):=hc n hlt 2 _ rfl
   have k3:wr.cell? ⟨b,o + n * 12 + 3,none⟩ = some (.int .i64 (l.getD n noAtA).i):=hc n hlt 3 _ rfl
   have k4:wr.cell? ⟨b,o + n * 12 + 4,none⟩ = some (strV (l.getD n noAtA).s):=hc n hlt 4 _ rfl
   have k5:wr.cell? ⟨b,o + n * 12 + 5,none⟩ = some (.int .i64 (l.getD n noAtA).T.1):=hc n hlt 5 _ rfl
   have k6:wr.cell? ⟨b,o + n * 12 + 6,none⟩ = some (.slice (l.getD n noAtA).A.pd (l.getD n noAtA).T.2.1.length (l.getD n noAtA).A.cd):=hc n hlt 6 _ rfl
   have k7:wr.cell? ⟨b,o + n * 12 + 7,none⟩ = some (.slice (l.getD n noAtA).A.pf (l.getD n noAtA).T.2.2.1.length (l.getD n noAtA).A.cf):=hc n hlt 7 _ rfl
   have k8:wr.cell? ⟨b,o + n * 12 + 8,none⟩ = some (.slice (l.getD n noAtA).A.pi (l.getD n noAtA).T.2.2.2.1.length (l.getD n noAtA).A.ci):=hc n hlt 8 _ rfl
   have k9:wr.cell? ⟨b,o + n * 12 + 9,none⟩ = some (.slice (l.getD n noAtA).A.pb (l.getD n noAtA).T.2.2.2.2.length (l.getD n noAtA).A.cb):=hc n hlt 9 _ rfl
   have k10:wr.cell? ⟨b,o + n * 12 + 10,none⟩ = some (.slice (l.getD n noAtA).qf (l.getD n noAtA).fl.length (l.getD n noAtA).cf):=hc n hlt 10 _ rfl
   have k11:wr.cell? ⟨b,o + n * 12 + 11,none⟩ = some (.slice (l.getD n noAtA).qi (l.getD n noAtA).is.length (l.getD n noAtA).ci):=hc n hlt 11 _ rfl
   have HX:=hide (fun v (hv:Below wr.heap.size wr v) => uh HH v (bl_tr (uh HB) hv) (l.getD n noAtA) (getD_mem7 hlt))
   have HT:=hide (any_take7 P noAtA l n hlt)
   have HM:=hide (any_mem7 (P:=P) (z:=noAtA) hlt)
   generalize P (l.getD n noAtA) = D at HX HT HM
   generalize l.getD n noAtA = a at k0 k1 k2 k3 k4 k5 k6 k7 k8 k9 k10 k11 HX
   unfold atCells tenCells strV at HX
   simp only [List.cons_append,List.nil_append] at HX
   unfold strV at *
   clear hc
   cases D
   ·have HN2:Hid ((l.take (n + 1)).any P = false):=hide (by rw [uh HT,uh HN]; rfl)
    clear HT HM HN
    go_wp2_with fail
    refine (uh HX _ (Below.refl _ _)).mono ?_
    rintro e w1 ⟨rfl,hb1⟩
    have BB:=hide (bl_tr (uh HB) hb1)
    clear hb1
    go_wp2_with fail
    go_roundw
    case rel => exact ⟨n + 1,by go_num,by omega,HN2,BB⟩
    case measure => simp [intOf]; omega
   ·have HE:=hide (uh HM rfl)
    clear HT HM HN
    go_wp2_with fail
    refine (uh HX _ (Below.refl _ _)).mono ?_
    rintro e w1 ⟨rfl,hb1⟩
    have BB:=hide (bl_tr (uh HB) hb1)
    clear hb1
    go_wp2_with fail
    go_ret
    exact ⟨⟨n,rfl,by rw [uh HE]; simp⟩,uh BB⟩
  ·have hi:¬ (n:Int) < (l.length:Int):=by omega
   have HE:Hid (l.any P = false):=hide (by have:=uh HN; rw [List.take_of_length_le (by omega)] at this; exact this)
   clear HN
   go_wp2_with fail
   go_ret
   exact ⟨⟨-1,rfl,by rw [uh HE]; rfl⟩,uh HB⟩
theorem ccontAttr_any (K:FuncId) (hK:Ent K) (caps:Array Value) (P:AtA → Bool) (p:Option Addr) (c:Nat) (l:List AtA) (w:World) (h:Rc 12 atCells noAtA w p c l)
  (H:∀ v,Below w.heap.size w v → ∀ x ∈ l,Calls Tryz.prog K (#[.agg (atCells x).toArray] ++ caps) v fun e w' => e = .returned (.bool (P x)) ∧ Below v.heap.size v w') :
  Calls Tryz.prog 129 #[.slice p l.length c,.func (.func K) #[] caps] w fun e w' => e = .returned (.bool (l.any P)) ∧ Below w.heap.size w w':=by
 have IX:=hide (cidxAttr_any K hK caps P p c l w h H)
 generalize l.any P = D at IX ⊢
 clear h H
 go_enter Tryz.func129,Tryz.ntmps129
 go_wp2_with fail
 refine (uh IX).mono ?_
 rintro e v ⟨⟨r,rfl,hr⟩,hb⟩
 have HR:=hide hr
 have HB:=hide hb
 clear hr hb
 go_wp2_with fail
 go_ret
 exact ⟨ret_bool (uh HR),uh HB⟩
theorem cnotNode_any (K:FuncId) (hK:Ent K) (caps:Array Value) (D:Bool) (x:NoA) (gb:Nat) (w:World) (hb:Box w gb #[.func (.func K) #[] caps] 134)
  (H:∀ v,Below w.heap.size w v → Calls Tryz.prog K (#[.agg (noCells x).toArray] ++ caps) v fun e w' => e = .returned (.bool D) ∧ Below v.heap.size v w') :
  Calls Tryz.prog 118 #[.agg (noCells x).toArray,.pointer (some ⟨gb,0,none⟩)] w fun e w' => e = .returned (.bool (!D)) ∧ Below w.heap.size w w':=by
 have hk:∀ (args:Array Value) (v:World),(callFunc K args).run Tryz.prog v = .ok (.enter K args) v:=hK
 have HX:=hide H
 have x0:=(hb.alloc (Obj.cells #[.string (strOfNums x.op),.string (strOfNums x.nm),.slice x.qi x.ins.length x.ci,.slice x.qo x.outs.length x.co,.slice x.qa x.at'.length x.ca] 55)).cell
 clear H hb hK
 unfold noCells strV at HX ⊢
 go_enter Tryz.func118,Tryz.ntmps118
 go_wp2_with fail
 refine (uh HX _ (al1p _ _)).mono ?_
 rintro e v ⟨rfl,hv⟩
 have HV:=hide (bl_tr (al1p _ _) hv)
 clear hv
 go_wp2_with fail
 go_ret
 exact ⟨rfl,uh HV⟩
theorem ceveryNode_any (K:FuncId) (hK:Ent K) (caps:Array Value) (P:NoA → Bool) (p:Option Addr) (c:Nat) (l:List NoA) (w:World) (h:Rc 5 noCells noNoA w p c l)
  (H:∀ v,Below w.heap.size w v → ∀ x ∈ l,Calls Tryz.prog K (#[.agg (noCells x).toArray] ++ caps) v fun e w' => e = .returned (.bool (P x)) ∧ Below v.heap.size v w') :
  Calls Tryz.prog 87 #[.slice p l.length c,.func (.func K) #[] caps] w fun e w' => e = .returned (.bool (l.all P)) ∧ Below w.heap.size w w':=by
 have C1:=hide (fun v (hv:Below w.heap.size w v) gb (hb:Box v gb #[.func (.func K) #[] caps] 134) => ccontNode_any 118 (ent_of Tryz.func118 (by kernel_rfl) rfl) #[.pointer (some ⟨gb,0,none⟩)] (fun x => !P x) p c l v (h.below hv) (fun u hu x hx => cnotNode_any K hK caps (P x) x gb u (hb.below hu) (fun y hy => H y (bl_tr hv (bl_tr hu hy)) x hx)))
 have HV:=hide (all_not7 P l)
 rw [uh HV]
 generalize (l.any fun x => !P x) = D at C1 ⊢
 clear h H HV
 go_enter Tryz.func87,Tryz.ntmps87
 go_wp2_with fail
 refine (uh C1 _ (al1p _ _) _ (Box.new _ _ _)).mono ?_
 rintro e v ⟨rfl,hv⟩
 have HB:=hide (bl_tr (al1p _ _) hv)
 clear hv
 go_wp2_with fail
 go_ret
 exact ⟨rfl,uh HB⟩
theorem cnotInit_any (K:FuncId) (hK:Ent K) (caps:Array Value) (D:Bool) (x:InA) (gb:Nat) (w:World) (hb:Box w gb #[.func (.func K) #[] caps] 137)
  (H:∀ v,Below w.heap.size w v → Calls Tryz.prog K (#[.agg (inCells x).toArray] ++ caps) v fun e w' => e = .returned (.bool D) ∧ Below v.heap.size v w') :
  Calls Tryz.prog 121 #[.agg (inCells x).toArray,.pointer (some ⟨gb,0,none⟩)] w fun e w' => e = .returned (.bool (!D)) ∧ Below w.heap.size w w':=by
 have hk:∀ (args:Array Value) (v:World),(callFunc K args).run Tryz.prog v = .ok (.enter K args) v:=hK
 have HX:=hide H
 have x0:=(hb.alloc (Obj.cells #[.string (strOfNums x.nm),.int .i64 x.T.1,.slice x.A.pd x.T.2.1.length x.A.cd,.slice x.A.pf x.T.2.2.1.length x.A.cf,.slice x.A.pi x.T.2.2.2.1.length x.A.ci,.slice x.A.pb x.T.2.2.2.2.length x.A.cb] 61)).cell
 clear H hb hK
 unfold inCells tenCells strV at HX ⊢
 go_enter Tryz.func121,Tryz.ntmps121
 go_wp2_with fail
 refine (uh HX _ (al1p _ _)).mono ?_
 rintro e v ⟨rfl,hv⟩
 have HV:=hide (bl_tr (al1p _ _) hv)
 clear hv
 go_wp2_with fail
 go_ret
 exact ⟨rfl,uh HV⟩
theorem ceveryInit_any (K:FuncId) (hK:Ent K) (caps:Array Value) (P:InA → Bool) (p:Option Addr) (c:Nat) (l:List InA) (w:World) (h:Rc 6 inCells noInA w p c l)
  (H:∀ v,Below w.heap.size w v → ∀ x ∈ l,Calls Tryz.prog K (#[.agg (inCells x).toArray] ++ caps) v fun e w' => e = .returned (.bool (P x)) ∧ Below v.heap.size v w') :
  Calls Tryz.prog 89 #[.slice p l.length c,.func (.func K) #[] caps] w fun e w' => e = .returned (.bool (l.all P)) ∧ Below w.heap.size w w':=by
 have C1:=hide (fun v (hv:Below w.heap.size w v) gb (hb:Box v gb #[.func (.func K) #[] caps] 137) => ccontInit_any 121 (ent_of Tryz.func121 (by kernel_rfl) rfl) #[.pointer (some ⟨gb,0,none⟩)] (fun x => !P x) p c l v (h.below hv) (fun u hu x hx => cnotInit_any K hK caps (P x) x gb u (hb.below hu) (fun y hy => H y (bl_tr hv (bl_tr hu hy)) x hx)))
 have HV:=hide (all_not7 P l)
 rw [uh HV]
 generalize (l.any fun x => !P x) = D at C1 ⊢
 clear h H HV
 go_enter Tryz.func89,Tryz.ntmps89
 go_wp2_with fail
 refine (uh C1 _ (al1p _ _) _ (Box.new _ _ _)).mono ?_
 rintro e v ⟨rfl,hv⟩
 have HB:=hide (bl_tr (al1p _ _) hv)
 clear hv
 go_wp2_with fail
 go_ret
 exact ⟨rfl,uh HB⟩
theorem cnotValue_any (K:FuncId) (hK:Ent K) (caps:Array Value) (D:Bool) (x:VaA) (gb:Nat) (w:World) (hb:Box w gb #[.func (.func K) #[] caps] 139)
  (H:∀ v,Below w.heap.size w v → Calls Tryz.prog K (#[.agg (vaCells x).toArray] ++ caps) v fun e w' => e = .returned (.bool D) ∧ Below v.heap.size v w') :
  Calls Tryz.prog 126 #[.agg (vaCells x).toArray,.pointer (some ⟨gb,0,none⟩)] w fun e w' => e = .returned (.bool (!D)) ∧ Below w.heap.size w w':=by
 have hk:∀ (args:Array Value) (v:World),(callFunc K args).run Tryz.prog v = .ok (.enter K args) v:=hK
 have HX:=hide H
 have x0:=(hb.alloc (Obj.cells #[.string (strOfNums x.nm),.int .i64 x.ty,.slice x.q x.ds.length x.c] 63)).cell
 clear H hb hK
 unfold vaCells strV at HX ⊢
 go_enter Tryz.func126,Tryz.ntmps126
 go_wp2_with fail
 refine (uh HX _ (al1p _ _)).mono ?_
 rintro e v ⟨rfl,hv⟩
 have HV:=hide (bl_tr (al1p _ _) hv)
 clear hv
 go_wp2_with fail
 go_ret
 exact ⟨rfl,uh HV⟩
theorem ceveryValue_any (K:FuncId) (hK:Ent K) (caps:Array Value) (P:VaA → Bool) (p:Option Addr) (c:Nat) (l:List VaA) (w:World) (h:Rc 3 vaCells noVaA w p c l)
  (H:∀ v,Below w.heap.size w v → ∀ x ∈ l,Calls Tryz.prog K (#[.agg (vaCells x).toArray] ++ caps) v fun e w' => e = .returned (.bool (P x)) ∧ Below v.heap.size v w') :
  Calls Tryz.prog 92 #[.slice p l.length c,.func (.func K) #[] caps] w fun e w' => e = .returned (.bool (l.all P)) ∧ Below w.heap.size w w':=by
 have C1:=hide (fun v (hv:Below w.heap.size w v) gb (hb:Box v gb #[.func (.func K) #[] caps] 139) => ccontValue_any 126 (ent_of Tryz.func126 (by kernel_rfl) rfl) #[.pointer (some ⟨gb,0,none⟩)] (fun x => !P x) p c l v (h.below hv) (fun u hu x hx => cnotValue_any K hK caps (P x) x gb u (hb.below hu) (fun y hy => H y (bl_tr hv (bl_tr hu hy)) x hx)))
 have HV:=hide (all_not7 P l)
 rw [uh HV]
 generalize (l.any fun x => !P x) = D at C1 ⊢
 clear h H HV
 go_enter Tryz.func92,Tryz.ntmps92
 go_wp2_with fail
 refine (uh C1 _ (al1p _ _) _ (Box.new _ _ _)).mono ?_
 rintro e v ⟨rfl,hv⟩
 have HB:=hide (bl_tr (al1p _ _) hv)
 clear hv
 go_wp2_with fail
 go_ret
 exact ⟨rfl,uh HB⟩
theorem cnotAttr_any (K:FuncId) (hK:Ent K) (caps:Array Value) (D:Bool) (x:AtA) (gb:Nat) (w:World) (hb:Box w gb #[.func (.func K) #[] caps] 161)
  (H:∀ v,Below w.heap.size w v → Calls Tryz.prog K (#[.agg (atCells x).toArray] ++ caps) v fun e w' => e = .returned (.bool D) ∧ Below v.heap.size v w') :
  Calls Tryz.prog 150 #[.agg (atCells x).toArray,.pointer (some ⟨gb,0,none⟩)] w fun e w' => e = .returned (.bool (!D)) ∧ Below w.heap.size w w':=by
 have hk:∀ (args:Array Value) (v:World),(callFunc K args).run Tryz.prog v = .ok (.enter K args) v:=hK
 have HX:=hide H
 have x0:=(hb.alloc (Obj.cells #[.string (strOfNums x.nm),.int .i64 x.kd,.int .u32 x.f,.int .i64 x.i,.string (strOfNums x.s),.int .i64 x.T.1,.slice x.A.pd x.T.2.1.length x.A.cd,.slice x.A.pf x.T.2.2.1.length x.A.cf,.slice x.A.pi x.T.2.2.2.1.length x.A.ci,.slice x.A.pb x.T.2.2.2.2.length x.A.cb,.slice x.qf x.fl.length x.cf,.slice x.qi x.is.length x.ci] 121)).cell
 clear H hb hK
 unfold atCells tenCells strV at HX ⊢
 simp only [List.cons_append,List.nil_append] at HX ⊢
 go_enter Tryz.func150,Tryz.ntmps150
 go_wp2_with fail
 refine (uh HX _ (al1p _ _)).mono ?_
 rintro e v ⟨rfl,hv⟩
 have HV:=hide (bl_tr (al1p _ _) hv)
 clear hv
 go_wp2_with fail
 go_ret
 exact ⟨rfl,uh HV⟩
theorem ceveryAttr_any (K:FuncId) (hK:Ent K) (caps:Array Value) (P:AtA → Bool) (p:Option Addr) (c:Nat) (l:List AtA) (w:World) (h:Rc 12 atCells noAtA w p c l)
  (H:∀ v,Below w.heap.size w v → ∀ x ∈ l,Calls Tryz.prog K (#[.agg (atCells x).toArray] ++ caps) v fun e w' => e = .returned (.bool (P x)) ∧ Below v.heap.size v w') :
  Calls Tryz.prog 119 #[.slice p l.length c,.func (.func K) #[] caps] w fun e w' => e = .returned (.bool (l.all P)) ∧ Below w.heap.size w w':=by
 have C1:=hide (fun v (hv:Below w.heap.size w v) gb (hb:Box v gb #[.func (.func K) #[] caps] 161) => ccontAttr_any 150 (ent_of Tryz.func150 (by kernel_rfl) rfl) #[.pointer (some ⟨gb,0,none⟩)] (fun x => !P x) p c l v (h.below hv) (fun u hu x hx => cnotAttr_any K hK caps (P x) x gb u (hb.below hu) (fun y hy => H y (bl_tr hv (bl_tr hu hy)) x hx)))
 have HV:=hide (all_not7 P l)
 rw [uh HV]
 generalize (l.any fun x => !P x) = D at C1 ⊢
 clear h H HV
 go_enter Tryz.func119,Tryz.ntmps119
 go_wp2_with fail
 refine (uh C1 _ (al1p _ _) _ (Box.new _ _ _)).mono ?_
 rintro e v ⟨rfl,hv⟩
 have HB:=hide (bl_tr (al1p _ _) hv)
 clear hv
 go_wp2_with fail
 go_ret
 exact ⟨rfl,uh HB⟩
end Go.Proofs.YtbmmcbagdomonaaGreat
