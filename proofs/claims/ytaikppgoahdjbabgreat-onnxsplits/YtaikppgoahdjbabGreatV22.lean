import Derived.Test.YtaikppgoahdjbabGreatV20
set_option maxRecDepth 100000
set_option maxHeartbeats 8000000
namespace Go.Proofs.YtaikppgoahdjbabGreat
open Go.RowKit
set_option linter.unusedVariables false
theorem var_flat (m:List Int):(m.flatMap fun x => varV (u64w x)).length ≤ m.length * 10:=by
 induction m with
 | nil => simp
 | cons x r ih =>
   rw [List.flatMap_cons,List.length_append,List.length_cons]
   have:=(varV_len (u64w x)).2
   omega
theorem fx_flat (g:Int → Int) (k:Nat) (m:List Int):(m.flatMap fun x => fxL (g x) k).length = m.length * k:=by
 induction m with
 | nil => simp
 | cons x r ih => rw [List.flatMap_cons,List.length_append,List.length_cons,ih,fxL_length,Nat.succ_mul,Nat.add_comm]
def bit7 (b:Bool):Int:=if b then 1 else 0
theorem raw_parts (T:Ten):rawB T = ((T.2.2.1.flatMap fun x => fxL (id x) 4) ++ (T.2.2.2.1.flatMap fun x => fxL (u64w x) 8)) ++ T.2.2.2.2.map bit7:=rfl
def AtSm (a:AtA):Prop:=a.nm.length ≤ 100000 ∧ a.s.length ≤ 100000 ∧ a.fl.length ≤ 100000 ∧ a.is.length ≤ 100000 ∧ a.T.2.1.length ≤ 1000 ∧ a.T.2.2.1.length ≤ 10000000 ∧ a.T.2.2.2.1.length ≤ 10000000 ∧ a.T.2.2.2.2.length ≤ 10000000
end Go.Proofs.YtaikppgoahdjbabGreat
