import Derived.Deep.DeepAppendWide
import Derived.Test.YtmdlaahdgjegcaaGreatV04
set_option maxRecDepth 100000
set_option maxHeartbeats 8000000
namespace Go.Proofs.YtmdlaahdgjegcaaGreat
open Go.RowKit
set_option linter.unusedVariables false
theorem wpList_append_lsW {α:Type} [Inhabited α] {f:α → Value} {P:Program} {w:World} {ops:Array Oper} {rest:List Oper} {o:Oper} {a:Act} {Q:Exit → Act → World → Prop} (hgd:o.guard = none) (s x:Operand) (t:TypeId)
  (ho:o.op = .call { callee:=.builtin .append,args:=#[s,x],argTypes:=#[t,t] })
  (w0:World) (e:TypeId) (i:TypeInfo) (z:Value) (bytes:Nat) (ht:P.underlying t = some (.slice e)) (hi:P.info? e = some i) (hz:i.zero = some z)
  (hsize:i.size = 1) (hby:i.bytes = bytes) (hzs:z.cells.size = 1) (hf:∀ y,(f y).oneCell' = true)
  (v:Value) (os:List α) (hs:a.eval s = v) (hown:OwnG e f w0 w v os)
  (p:Option Addr) (c:Nat) (xs:List α) (hx:a.eval x = .slice p xs.length c) (hl:Ls f w p c xs)
  (h63:os.length + xs.length ≤ maxLen) (hbytes:((os.length + xs.length) + (os.length + xs.length) / 4 + 192) * bytes ≤ 281474976710656)
  (h:∀ v' w',OwnG e f w0 w' v' (os ++ xs) → w.grownBy w' v.ownBlock → wpList P ops Q rest (a.put o.dst v') w'):wpList P ops Q (o :: rest) a w:=by
 cases p with
 | none =>
   have hx0:xs = []:=by
    rcases Nat.eq_zero_or_pos xs.length with g | g
    ·exact List.eq_nil_of_length_eq_zero g
    ·obtain ⟨b,o,e,_⟩:=hl.lies g; cases e
   subst hx0
   have hc0:c = 0:=hl.2.2.2 rfl
   subst hc0
   refine wpList_append_own_none hgd s x t ho w0.heap.size e i 1 ht hi v _ _ hs hown.1 hx (h v w ?_ ⟨rfl,rfl,rfl,Nat.le_refl _,fun _ _ _ => rfl⟩)
   rw [List.append_nil]; exact hown
 | some ad =>
   have hcells:∀ j u,(xs.map f)[j]? = some u → w.cell? (ad.add j) = some u:=by
    rcases Nat.eq_zero_or_pos xs.length with g | g
    ·have:xs = []:=List.eq_nil_of_length_eq_zero g
     subst this
     intro j u hj; simp at hj
    ·obtain ⟨b,o,e,hb,hc⟩:=hl.lies g
     simp only [Option.some.injEq] at e
     subst e; exact lsMap_cells hc
   refine wpList_append_own_wide w hgd s x t ho w0.heap.size e i z 1 bytes ht hi hz hsize hby hzs (by decide) v os.length (os.map f) hs hown.1 ad xs.length c (xs.map f) hx (by simp) hcells ?_ h63 hbytes hown.2.size ?_
   ·intro u hu
    obtain ⟨y,_,rfl⟩:=List.mem_map.1 hu
    exact hf y
   ·intro v' w' h1 h2 _
    refine h v' w' ⟨by rw [List.length_append,List.map_append]; exact h1,?_⟩ h2
    exact hown.2.grown h2 hown.2.size (fun k hk => (hown.1.lt k hk).1)
end Go.Proofs.YtmdlaahdgjegcaaGreat
