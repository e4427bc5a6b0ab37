import Derived.Test.YtkpmfkkfcikfhaaV43
import Derived.Test.YtkpmfkkfcikfhaaV44
set_option maxRecDepth 100000
set_option maxHeartbeats 8000000
namespace Go.Proofs.Ytkpmfkkfcikfhaa
open Go.RowKit
set_option linter.unusedVariables false
set_option linter.unusedSimpArgs false
theorem and65535_8 (n:Int):bits .and .i64 n 65535 = n % 65536:=by
 have h1:(BitVec.ofInt 64 65535).toNat = 2 ^ 16 - 1:=by decide
 have key:(BitVec.ofInt 64 n &&& BitVec.ofInt 64 65535).toNat = (n % ((2 ^ 64:Nat):Int)).toNat % 2 ^ 16:=by
  rw [BitVec.toNat_and,BitVec.toNat_ofInt,h1,Nat.and_two_pow_sub_one_eq_mod]
 show IntKind.i64.wrap ((BitVec.ofInt 64 n &&& BitVec.ofInt 64 65535).toNat:Nat) = n % 65536
 rw [key,IntKind.wrap_i64]
 omega
theorem wpList_load8g {w:World} {ops:Array Oper} {rest:List Oper} {o:Oper} {a:Act} {Q:Exit → Act → World → Prop} (hw:Region.wanted o (yielded ops a.tmps) = true) (p:Operand) (ho:o.op = .load 45 p)
  {g:Nat} {cs:Array Value} {t:TypeId} (hp:a.eval p = .pointer (some ⟨g,0,none⟩)) (hb:Box w g cs t) (hs:cs.size = 36)
  (h:wpList Try.prog ops Q rest (a.put o.dst (.agg cs)) w):wpList Try.prog ops Q (o :: rest) a w:=by
 refine wpList_step fun K hK => ?_
 rw [if_pos hw]
 unfold Oper.wp
 simp only [execOp,ho,Instr.loadAt,hp,Instr.sureAddr,Sem.run_bind,Sem.run_pure,Result.andThen_ok,loadVar_box8 hb hs]
 exact hK _ _ h
end Go.Proofs.Ytkpmfkkfcikfhaa
