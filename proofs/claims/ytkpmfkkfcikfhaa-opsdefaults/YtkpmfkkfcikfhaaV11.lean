import Derived.Test.YtkpmfkkfcikfhaaV05
import Derived.Test.YtkpmfkkfcikfhaaV09
set_option maxRecDepth 100000
set_option maxHeartbeats 8000000
namespace Go.Proofs.Ytkpmfkkfcikfhaa
open Go.RowKit
set_option linter.unusedVariables false
def Ent (K:FuncId):Prop:=∀ (args:Array Value) (v:World),(callFunc K args).run Try.prog v = .ok (.enter K args) v
theorem any_take7 {α:Type} (P:α → Bool) (z:α) (l:List α) (n:Nat) (h:n < l.length):(l.take (n + 1)).any P = ((l.take n).any P || P (l.getD n z)):=by
 rw [List.take_add_one,List.any_append,List.getD_eq_getElem?_getD,List.getElem?_eq_getElem h]
 simp
theorem getD_mem7 {α:Type} {z:α} {l:List α} {i:Nat} (h:i < l.length):l.getD i z ∈ l:=by
 rw [List.getD_eq_getElem?_getD,List.getElem?_eq_getElem h]; simp
theorem ent_of {f:FuncId} {fn:Func} {c:Code} (hf:Try.prog.funcs[f]? = some fn) (hname:(fn.name == "runtime.NumGoroutine") = false) (hb:fn.body = some c):Ent f:=by
 intro args w
 have h1:fn.name ≠ "runtime.NumGoroutine":=by simpa using hname
 simp [callFunc,hf,h1,hb,mark]
theorem any_mem7 {α:Type} {P:α → Bool} {z:α} {l:List α} {n:Nat} (h:n < l.length) (hp:P (l.getD n z) = true):l.any P = true:=List.any_eq_true.2 ⟨_,getD_mem7 h,hp⟩
theorem cidxAttr_any (K:FuncId) (hK:Ent K) (caps:Array Value) (P:AtA → Bool) (p:Option Addr) (c:Nat) (l:List AtA) (w:World) (h:Rc 12 atCells noAtA w p c l)
  (H:∀ v,Below w.heap.size w v → ∀ x ∈ l,Calls Try.prog K (#[.agg (atCells x).toArray] ++ caps) v fun e w' => e = .returned (.bool (P x)) ∧ Below v.heap.size v w') :
  Calls Try.prog 70 #[.slice p l.length c,.func (.func K) #[] caps] w fun e w' => (∃ r:Int,e = .returned (.int .i64 r) ∧ decide (0 ≤ r) = l.any P) ∧ Below w.heap.size w w':=by
 have hk:∀ (args:Array Value) (v:World),(callFunc K args).run Try.prog v = .ok (.enter K args) v:=hK
 have A1:=hide h
 have HH:=hide H
 clear hK
 have nl:=h.len
 clear h H
 go_enter Try.func70,Try.ntmps70
 go_wp2_with fail
 go_loopw [8] (fun iv wr => ∃ n:Nat,iv = .int .i64 n ∧ n ≤ l.length ∧ Hid ((l.take n).any P = false) ∧ Hid (Below w.heap.size w wr)) (fun iv _ => l.length - (intOf iv).toNat)
 case atStart => exact ⟨0,rfl,by omega,hide rfl,hide (Below.refl _ _)⟩
 case round =>
  obtain ⟨n,rfl,hn,HN,HB⟩:=hrel
  by_cases hlt:n < l.length
  ·have hi:(n:Int) < (l.length:Int):=by omega
   obtain ⟨b,o,rfl,hb,hc⟩:=((uh A1).below (uh HB)).lies (by omega)
   have k0:wr.cell? ⟨b,o + n * 12,none⟩ = some (strV (l.getD n noAtA).nm):=hc n hlt 0 _ rfl
   have k1:wr.cell? ⟨b,o + n * 12 + 1,none⟩ = some (.int .i64 (l.getD n noAtA).kd):=hc n hlt 1 _ rfl
   have k2:wr.cell? ⟨b,o + n * 12 + 2,none⟩ = some (.int .u32 (l.getD n noAtA).f):=hc n hlt 2 _ rfl
   have k3:wr.cell? ⟨b,o + n * 12 + 3,none⟩ = some (.int .i64 (l.getD n noAtA).i):=hc n hlt 3 _ rfl
   have k4:wr.cell? ⟨b,o + n * 12 + 4,none⟩ = some (strV (l.getD n noAtA).s):=hc n hlt 4 _ rfl
   have k5:wr.cell? ⟨b,o + n * 12 + 5,none⟩ = some (.int .i64 (l.getD n noAtA).T.1):=hc n hlt 5 _ rfl
   have k6:wr.cell? ⟨b,o + n * 12 + 6,none⟩ = some (.slice (l.getD n noAtA).A.pd (l.getD n noAtA).T.2.1.length (l.getD n noAtA).A.cd):=hc n hlt 6 _ rfl
   have k7:wr.cell? ⟨b,o + n * 12 + 7,none⟩ = some (.slice (l.getD n noAtA).A.pf (l.getD n noAtA).T.2.2.1.length (l.getD n noAtA).A.cf):=hc n hlt 7 _ rfl
   have k8:wr.cell? ⟨b,o + n * 12 + 8,none⟩ = some (.slice (l.getD n noAtA).A.pi (l.getD n noAtA).T.2.2.2.1.length (l.getD n noAtA).A.ci):=hc n hlt 8 _ rfl
   have k9:wr.cell? ⟨b,o + n * 12 + 9,none⟩ = some (.slice (l.getD n noAtA).A.pb (l.getD n noAtA).T.2.2.2.2.length (l.getD n noAtA).A.cb):=hc n hlt 9 _ rfl
   have k10:wr.cell? ⟨b,o + n * 12 + 10,none⟩ = some (.slice (l.getD n noAtA).qf (l.getD n noAtA).fl.length (l.getD n noAtA).cf):=hc n hlt 10 _ rfl
   have k11:wr.cell? ⟨b,o + n * 12 + 11,none⟩ = some (.slice (l.getD n noAtA).qi (l.getD n noAtA).is.length (l.getD n noAtA).ci):=hc n hlt 11 _ rfl
   have HX:=hide (fun v (hv:Below wr.heap.size wr v) => uh HH v (bl_tr (uh HB) hv) (l.getD n noAtA) (getD_mem7 hlt))
   have HT:=hide (any_take7 P noAtA l n hlt)
   have HM:=hide (any_mem7 (P:=P) (z:=noAtA) hlt)
   generalize P (l.getD n noAtA) = D at HX HT HM
   generalize l.getD n noAtA = a at k0 k1 k2 k3 k4 k5 k6 k7 k8 k9 k10 k11 HX
   unfold atCells tenCells strV at HX
   simp only [List.cons_append,List.nil_append] at HX
   unfold strV at *
   clear hc
   cases D
   ·have HN2:Hid ((l.take (n + 1)).any P = false):=hide (by rw [uh HT,uh HN]; rfl)
    clear HT HM HN
    go_wp2_with fail
    refine (uh HX _ (Below.refl _ _)).mono ?_
    rintro e w1 ⟨rfl,hb1⟩
    have BB:=hide (bl_tr (uh HB) hb1)
    clear hb1
    go_wp2_with fail
    go_roundw
    case rel => exact ⟨n + 1,by go_num,by omega,HN2,BB⟩
    case measure => simp [intOf]; omega
   ·have HE:=hide (uh HM rfl)
    clear HT HM HN
    go_wp2_with fail
    refine (uh HX _ (Below.refl _ _)).mono ?_
    rintro e w1 ⟨rfl,hb1⟩
    have BB:=hide (bl_tr (uh HB) hb1)
    clear hb1
    go_wp2_with fail
    go_ret
    exact ⟨⟨n,rfl,by rw [uh HE]; simp⟩,uh BB⟩
  ·have hi:¬ (n:Int) < (l.length:Int):=by omega
   have HE:Hid (l.any P = false):=hide (by have:=uh HN; rw [List.take_of_length_le (by omega)] at this; exact this)
   clear HN
   go_wp2_with fail
   go_ret
   exact ⟨⟨-1,rfl,by rw [uh HE]; rfl⟩,uh HB⟩
theorem ccontAttr_any (K:FuncId) (hK:Ent K) (caps:Array Value) (P:AtA → Bool) (p:Option Addr) (c:Nat) (l:List AtA) (w:World) (h:Rc 12 atCells noAtA w p c l)
  (H:∀ v,Below w.heap.size w v → ∀ x ∈ l,Calls Try.prog K (#[.agg (atCells x).toArray] ++ caps) v fun e w' => e = .returned (.bool (P x)) ∧ Below v.heap.size v w') :
  Calls Try.prog 60 #[.slice p l.length c,.func (.func K) #[] caps] w fun e w' => e = .returned (.bool (l.any P)) ∧ Below w.heap.size w w':=by
 have IX:=hide (cidxAttr_any K hK caps P p c l w h H)
 generalize l.any P = D at IX ⊢
 clear h H
 go_enter Try.func60,Try.ntmps60
 go_wp2_with fail
 refine (uh IX).mono ?_
 rintro e v ⟨⟨r,rfl,hr⟩,hb⟩
 have HR:=hide hr
 have HB:=hide hb
 clear hr hb
 go_wp2_with fail
 go_ret
 exact ⟨ret_bool (uh HR),uh HB⟩
end Go.Proofs.Ytkpmfkkfcikfhaa
