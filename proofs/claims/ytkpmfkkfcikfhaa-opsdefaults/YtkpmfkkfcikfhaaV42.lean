import Derived.Deep.RegionHeld3
import Derived.Lib.SliceRun
import Derived.Test.YtkpmfkkfcikfhaaV05
import Derived.Test.YtkpmfkkfcikfhaaV12
import Derived.Test.YtkpmfkkfcikfhaaV41
set_option maxRecDepth 100000
set_option maxHeartbeats 8000000
namespace Go.Proofs.Ytkpmfkkfcikfhaa
open Go.RowKit
set_option linter.unusedVariables false
set_option linter.unusedSimpArgs false
theorem NoIn.below8 {B:Nat} {w w':World} {a:NoA} (h:NoIn B w a) (hb:Below w.heap.size w w'):NoIn B w' a:=h.kept (TS:=nodeTS) (fun t h => h) (Kept.below hb)
theorem step_append_rc {β:Type} {k:Nat} {cells:β → List Value} {P:Program} {ops:Array Oper} {o:Oper} {a:Act} {w:World} {K:Act → World → Prop} {Q:Exit → Act → World → Prop} {E:Prop} (hk:Wd k cells) (z:β) (hg:o.guard = none) (s x:Operand) (t:TypeId)
  (hop:o.op = Op.call { callee:=Callee.builtin Builtin.append,args:=#[s,x],argTypes:=#[t,t] }) (w0:World) (e:TypeId) (i:TypeInfo) (zv:Value) (bytes:Nat)
  (h1:P.underlying t = some (.slice e)) (h2:P.info? e = some i) (h3:i.zero = some zv) (h4:i.size = k) (h5:i.bytes = bytes) (h6:zv.cells.size = k)
  (v:Value) (l:List β) (hs:a.eval s = v) (hown:OwnR e k cells w0 w v l)
  (p:Option Addr) (c:Nat) (m:List β) (hx:a.eval x = .slice p m.length c) (hc:Rc k cells z w p c m)
  (b1:l.length + m.length ≤ maxLen) (b2:(l.length + m.length) * bytes ≤ 140737488355328) (hK:∀ v' w',OwnR e k cells w0 w' v' (l ++ m) → w.grownBy w' v.ownBlock → K (a.put o.dst v') w') :
  if Region.wanted o (yielded ops a.tmps) = true then Oper.wp P o a w K Q else E:=by
 have hw:Region.wanted o (yielded ops a.tmps) = true:=by simp [Region.wanted,hg]
 rw [if_pos hw]
 cases p with
 | none =>
   have hx0:m = []:=by
    rcases Nat.eq_zero_or_pos m.length with g | g
    ·exact List.eq_nil_of_length_eq_zero g
    ·obtain ⟨b,o,e,_⟩:=hc.lies g; cases e
   subst hx0
   have hc0:c = 0:=hc.2.2.2 rfl
   subst hc0
   have hrun:=run_append_owned_none (P:=P) (w:=w) w0.heap.size t o.type e i k h1 h2 v _ _ hown.1
   unfold Oper.wp
   simp only [List.length_nil] at hx
   simp [execOp,hop,resolve,invoke,builtin,hs,hx,hrun,Result.andThen]
   refine hK v w ?_ ⟨rfl,rfl,rfl,Nat.le_refl _,fun _ _ _ => rfl⟩
   rw [List.append_nil]; exact hown
 | some ad =>
   have hcells:∀ j u,(m.flatMap cells)[j]? = some u → w.cell? (ad.add j) = some u:=by
    rcases Nat.eq_zero_or_pos m.length with g | g
    ·have:m = []:=List.eq_nil_of_length_eq_zero g
     subst this
     intro j u hj; simp at hj
    ·obtain ⟨b,o,e,hb,hcc⟩:=hc.lies g
     simp only [Option.some.injEq] at e
     subst e
     exact rc_cells hk hcc
   obtain ⟨v',w',hrun,r1,r2,_⟩:=run_append_own (P:=P) w w0.heap.size t o.type e i zv k bytes h1 h2 h3 h4 h5 h6 hk.1 v l.length (l.flatMap cells) hown.1 ad m.length c (m.flatMap cells) (rc_len hk m) hcells (fun u hu => by
    obtain ⟨f,_,hf⟩:=List.mem_flatMap.1 hu
    exact hk.2.2 f u hf) b1 b2 hown.2.size
   unfold Oper.wp
   simp [execOp,hop,resolve,invoke,builtin,hs,hx,hrun,Result.andThen]
   refine hK v' w' ⟨by rw [List.length_append,List.flatMap_append]; exact r1,?_⟩ r2
   exact hown.2.grown r2 hown.2.size (fun k hk => (hown.1.lt k hk).1)
end Go.Proofs.Ytkpmfkkfcikfhaa
