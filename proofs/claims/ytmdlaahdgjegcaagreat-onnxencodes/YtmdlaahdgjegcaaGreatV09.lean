import Derived.Test.YtmdlaahdgjegcaaGreatV08
set_option maxRecDepth 100000
set_option maxHeartbeats 8000000
namespace Go.Proofs.YtmdlaahdgjegcaaGreat
open Go.RowKit
set_option linter.unusedVariables false
theorem oneL_at {b:List Int} {n:Nat} {D:Option (Fld × Nat)} (h:oneL (b.drop n) = D) (hn:n ≤ b.length):D = match rdG 10 (b.drop n) with
  | none => none
  | some t =>
    if t.1 / 8 < 1 ∨ 536870911 < t.1 / 8 then none
    else if t.1 % 8 = 0 then (rdG 10 (b.drop (n + t.2))).map fun y => ((t.1 / 8,0,y.1,[]),t.2 + y.2)
    else if t.1 % 8 = 1 then (if b.length < n + t.2 + 8 then none else some ((t.1 / 8,1,leV ((b.drop (n + t.2)).take 8),[]),t.2 + 8))
    else if t.1 % 8 = 5 then (if b.length < n + t.2 + 4 then none else some ((t.1 / 8,5,leV ((b.drop (n + t.2)).take 4),[]),t.2 + 4))
    else if t.1 % 8 = 2 then (match rdG 10 (b.drop (n + t.2)) with
     | none => none
     | some y => if (b.length:Int) < (n + t.2 + y.2:Nat) + y.1 then none else some ((t.1 / 8,2,0,(b.drop (n + t.2 + y.2)).take y.1.toNat),t.2 + y.2 + y.1.toNat))
    else none:=by
 rw [← h]
 unfold oneL
 cases hg:rdG 10 (b.drop n) with
 | none => rfl
 | some t =>
   obtain ⟨tag,p⟩:=t
   obtain ⟨_,_,c3⟩:=rdG_count 10 _ tag p hg
   simp at c3
   simp only [List.drop_drop,List.length_drop]
   have e8:(b.length - n < p + 8) = (b.length < n + p + 8):=by simp; omega
   have e4:(b.length - n < p + 4) = (b.length < n + p + 4):=by simp; omega
   have e2:∀ y:Int × Nat,(((b.length - n:Nat):Int) < (p + y.2:Nat) + y.1) = ((b.length:Int) < (n + p + y.2:Nat) + y.1):=fun y => by simp; omega
   simp only [e8,e4,e2,← Nat.add_assoc]
   cases rdG 10 (b.drop (n + p)) <;> rfl
end Go.Proofs.YtmdlaahdgjegcaaGreat
