import Derived.Test.YtkpmfkkfcikfhaaV34
set_option maxRecDepth 100000
set_option maxHeartbeats 8000000
namespace Go.Proofs.Ytkpmfkkfcikfhaa
open Go.RowKit
set_option linter.unusedVariables false
set_option linter.unusedSimpArgs false
theorem aggSe_run (w:World):(isAgg 45).run Try.prog w = .ok true w:=by kernel_rfl
theorem sizeSe_run (w:World):(sizeOf 45).run Try.prog w = .ok 36 w:=by kernel_rfl
def Ones (cs:Array Value):Prop:=∀ v ∈ cs.toList,v.oneCell' = true
theorem load_box8 {w:World} {g:Nat} {cs:Array Value} {t:TypeId} (h:Box w g cs t) (hs:cs.size = 36):(loadCells ⟨g,0,none⟩ 36).run Try.prog w = .ok cs w:=by
 have:=run_loadCells_list (P:=Try.prog) w ⟨g,0,none⟩ cs.toList (fun j v hj => by
  rw [Go.WideShapes.add_plain,Nat.zero_add,h.cell]
  simpa using hj)
 rw [Array.length_toList,hs] at this
 simpa using this
theorem loadVar_box8 {w:World} {g:Nat} {cs:Array Value} {t:TypeId} (h:Box w g cs t) (hs:cs.size = 36):(loadVar 45 ⟨g,0,none⟩).run Try.prog w = .ok (.agg cs) w:=by
 unfold loadVar
 simp only [Sem.run_bind,aggSe_run,Result.andThen_ok,if_true,sizeSe_run,load_box8 h hs,Sem.run_pure]
theorem wpList_load8 {w:World} {ops:Array Oper} {rest:List Oper} {o:Oper} {a:Act} {Q:Exit → Act → World → Prop} (hgd:o.guard = none) (p:Operand) (ho:o.op = .load 45 p)
  {g:Nat} {cs:Array Value} {t:TypeId} (hp:a.eval p = .pointer (some ⟨g,0,none⟩)) (hb:Box w g cs t) (hs:cs.size = 36)
  (h:wpList Try.prog ops Q rest (a.put o.dst (.agg cs)) w):wpList Try.prog ops Q (o :: rest) a w:=by
 refine wpList_plain hgd fun K hK => ?_
 unfold Oper.wp
 simp only [execOp,ho,Instr.loadAt,hp,Instr.sureAddr,Sem.run_bind,Sem.run_pure,Result.andThen_ok,loadVar_box8 hb hs]
 exact hK _ _ h
theorem setRow_stay8 {w:World} {g:Nat} {cs:Array Value}:Stay g w (w.setRow g cs) :=
 ⟨⟨rfl,rfl,rfl,by simp [World.setRow],fun k hk => setRow_other w g k cs (by omega)⟩,fun k h1 h2 => setRow_other w g k cs (by omega)⟩
theorem wpList_store8 {w:World} {ops:Array Oper} {rest:List Oper} {o:Oper} {a:Act} {Q:Exit → Act → World → Prop} (hgd:o.guard = none) (p x:Operand) (ho:o.op = .store 45 p x)
  {g:Nat} {cs old:Array Value} {t:TypeId} (hp:a.eval p = .pointer (some ⟨g,0,none⟩)) (hx:a.eval x = .agg cs) (hb:Box w g old t) (hs:cs.size = 36) (hso:old.size = 36) (h1:Ones cs)
  (h:∀ w',Box w' g cs t → Stay g w w' → w'.heap.size = w.heap.size → wpList Try.prog ops Q rest (a.put o.dst undef) w'):wpList Try.prog ops Q (o :: rest) a w:=by
 refine wpList_plain hgd fun K hK => ?_
 have hst:=run_storeCells_at Try.prog g 0 t cs.toList 0 old w hb (by simp [hs,hso]) h1
 simp only [Nat.zero_add,Nat.add_zero,List.take_zero,List.nil_append,Array.length_toList] at hst
 rw [List.drop_of_length_le (by simp [hs,hso]),List.append_nil,Array.toArray_toList] at hst
 unfold Oper.wp
 simp only [execOp,ho,Instr.storeAt,storeVar,hp,hx,Value.cells,Instr.sureAddr,Sem.run_bind,Sem.run_pure,Result.andThen_ok,sizeSe_run,hs,ne_eq,not_true_eq_false,if_false,hst]
 exact hK _ _ (h _ (setRow_heap w g old cs t (0,0) hb) setRow_stay8 (by simp [World.setRow]))
end Go.Proofs.Ytkpmfkkfcikfhaa
