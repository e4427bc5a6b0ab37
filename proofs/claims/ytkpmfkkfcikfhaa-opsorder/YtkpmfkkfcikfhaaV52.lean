import Derived.Test.YtkpmfkkfcikfhaaV44
import Derived.Test.YtkpmfkkfcikfhaaV51
set_option maxRecDepth 100000
set_option maxHeartbeats 8000000
namespace Go.Proofs.Ytkpmfkkfcikfhaa
open Go.RowKit
set_option linter.unusedVariables false
set_option linter.unusedSimpArgs false
theorem and65535_8 (n:Int):bits .and .i64 n 65535 = n % 65536:=by
 have h1:(BitVec.ofInt 64 65535).toNat = 2 ^ 16 - 1:=by decide
 have key:(BitVec.ofInt 64 n &&& BitVec.ofInt 64 65535).toNat = (n % ((2 ^ 64:Nat):Int)).toNat % 2 ^ 16:=by
  rw [BitVec.toNat_and,BitVec.toNat_ofInt,h1,Nat.and_two_pow_sub_one_eq_mod]
 show IntKind.i64.wrap ((BitVec.ofInt 64 n &&& BitVec.ofInt 64 65535).toNat:Nat) = n % 65536
 rw [key,IntKind.wrap_i64]
 omega
def revR (l:List AtA) (k n:Nat):List AtA:=(List.range n).map fun j => l.getD ((l.length - 1 - j + k) % l.length) noAtA
theorem revR_len (l:List AtA) (k n:Nat):(revR l k n).length = n:=by simp [revR]
theorem revR_succ (l:List AtA) (k n:Nat):revR l k (n + 1) = revR l k n ++ [l.getD ((l.length - 1 - n + k) % l.length) noAtA]:=by
 unfold revR
 rw [List.range_succ,List.map_append]
 rfl
theorem rot_eq (l:List AtA) (k:Nat) (hk:k < l.length):(List.range l.length).map (fun i => l.getD ((i + k) % l.length) noAtA) = l.drop k ++ l.take k:=by
 apply List.ext_getElem
 ·simp; omega
 ·intro i h1 h2
  have hi:i < l.length:=by simpa using h1
  rw [List.getElem_map,List.getElem_range,List.getElem_append]
  split
  ·rename_i h
   have h':i < l.length - k:=by simpa using h
   rw [List.getElem_drop,Nat.mod_eq_of_lt (by omega),Nat.add_comm i k,List.getD_eq_getElem?_getD,List.getElem?_eq_getElem (by omega)]
   rfl
  ·rename_i h
   have h':l.length - k ≤ i:=by simpa using h
   have e:(i + k) % l.length = i - (l.length - k):=by
    rw [Nat.mod_eq_sub_mod (by omega),Nat.mod_eq_of_lt (by omega)]; omega
   rw [List.getElem_take,e,List.getD_eq_getElem?_getD,List.getElem?_eq_getElem (by omega)]
   simp
theorem revR_perm (l:List AtA) (k:Nat) (hk:k < l.length ∨ l = []):(revR l k l.length).Perm l:=by
 rcases hk with hk | rfl
 ·have e:revR l k l.length = ((List.range l.length).map (fun i => l.getD ((i + k) % l.length) noAtA)).reverse:=by
   unfold revR
   apply List.ext_getElem
   ·simp
   ·intro i h1 h2
    have hi:i < l.length:=by simpa using h1
    rw [List.getElem_map,List.getElem_range,List.getElem_reverse,List.getElem_map,List.getElem_range]
    simp only [List.length_map,List.length_range]
  rw [e,rot_eq l k hk]
  refine (List.reverse_perm _).trans (List.perm_append_comm.trans ?_)
  rw [List.take_append_drop]
 ·exact List.Perm.refl _
theorem wpList_load8g {w:World} {ops:Array Oper} {rest:List Oper} {o:Oper} {a:Act} {Q:Exit → Act → World → Prop} (hw:Region.wanted o (yielded ops a.tmps) = true) (p:Operand) (ho:o.op = .load 45 p)
  {g:Nat} {cs:Array Value} {t:TypeId} (hp:a.eval p = .pointer (some ⟨g,0,none⟩)) (hb:Box w g cs t) (hs:cs.size = 36)
  (h:wpList Try.prog ops Q rest (a.put o.dst (.agg cs)) w):wpList Try.prog ops Q (o :: rest) a w:=by
 refine wpList_step fun K hK => ?_
 rw [if_pos hw]
 unfold Oper.wp
 simp only [execOp,ho,Instr.loadAt,hp,Instr.sureAddr,Sem.run_bind,Sem.run_pure,Result.andThen_ok,loadVar_box8 hb hs]
 exact hK _ _ h
end Go.Proofs.Ytkpmfkkfcikfhaa
