import Derived.Test.YtbmmcbagdomonaaGreatV03
import Derived.Test.YtbmmcbagdomonaaGreatV26
set_option maxRecDepth 100000
set_option maxHeartbeats 40000000
namespace Go.Proofs.YtbmmcbagdomonaaGreat
open Go.RowKit
set_option linter.unusedVariables false
set_option linter.unusedSimpArgs false
theorem aggSe_run (w:World):(isAgg 49).run Tryz.prog w = .ok true w:=by kernel_rfl
theorem sizeSe_run (w:World):(sizeOf 49).run Tryz.prog w = .ok 36 w:=by kernel_rfl
def Ones (cs:Array Value):Prop:=∀ v ∈ cs.toList,v.oneCell' = true
theorem load_box8 {w:World} {g:Nat} {cs:Array Value} {t:TypeId} (h:Box w g cs t) (hs:cs.size = 36):(loadCells ⟨g,0,none⟩ 36).run Tryz.prog w = .ok cs w:=by
 have:=run_loadCells_list (P:=Tryz.prog) w ⟨g,0,none⟩ cs.toList (fun j v hj => by
  rw [Go.WideShapes.add_plain,Nat.zero_add,h.cell]
  simpa using hj)
 rw [Array.length_toList,hs] at this
 simpa using this
theorem loadVar_box8 {w:World} {g:Nat} {cs:Array Value} {t:TypeId} (h:Box w g cs t) (hs:cs.size = 36):(loadVar 49 ⟨g,0,none⟩).run Tryz.prog w = .ok (.agg cs) w:=by
 unfold loadVar
 simp only [Sem.run_bind,aggSe_run,Result.andThen_ok,if_true,sizeSe_run,load_box8 h hs,Sem.run_pure]
theorem wpList_load8 {w:World} {ops:Array Oper} {rest:List Oper} {o:Oper} {a:Act} {Q:Exit → Act → World → Prop} (hgd:o.guard = none) (p:Operand) (ho:o.op = .load 49 p)
  {g:Nat} {cs:Array Value} {t:TypeId} (hp:a.eval p = .pointer (some ⟨g,0,none⟩)) (hb:Box w g cs t) (hs:cs.size = 36)
  (h:wpList Tryz.prog ops Q rest (a.put o.dst (.agg cs)) w):wpList Tryz.prog ops Q (o :: rest) a w:=by
 refine wpList_plain hgd fun K hK => ?_
 unfold Oper.wp
 simp only [execOp,ho,Instr.loadAt,hp,Instr.sureAddr,Sem.run_bind,Sem.run_pure,Result.andThen_ok,loadVar_box8 hb hs]
 exact hK _ _ h
theorem setRow_stay8 {w:World} {g:Nat} {cs:Array Value}:Stay g w (w.setRow g cs) :=
 ⟨⟨rfl,rfl,rfl,by simp [World.setRow],fun k hk => setRow_other w g k cs (by omega)⟩,fun k h1 h2 => setRow_other w g k cs (by omega)⟩
theorem wpList_store8 {w:World} {ops:Array Oper} {rest:List Oper} {o:Oper} {a:Act} {Q:Exit → Act → World → Prop} (hgd:o.guard = none) (p x:Operand) (ho:o.op = .store 49 p x)
  {g:Nat} {cs old:Array Value} {t:TypeId} (hp:a.eval p = .pointer (some ⟨g,0,none⟩)) (hx:a.eval x = .agg cs) (hb:Box w g old t) (hs:cs.size = 36) (hso:old.size = 36) (h1:Ones cs)
  (h:∀ w',Box w' g cs t → Stay g w w' → w'.heap.size = w.heap.size → wpList Tryz.prog ops Q rest (a.put o.dst undef) w'):wpList Tryz.prog ops Q (o :: rest) a w:=by
 refine wpList_plain hgd fun K hK => ?_
 have hst:=run_storeCells_at Tryz.prog g 0 t cs.toList 0 old w hb (by simp [hs,hso]) h1
 simp only [Nat.zero_add,Nat.add_zero,List.take_zero,List.nil_append,Array.length_toList] at hst
 rw [List.drop_of_length_le (by simp [hs,hso]),List.append_nil,Array.toArray_toList] at hst
 unfold Oper.wp
 simp only [execOp,ho,Instr.storeAt,storeVar,hp,hx,Value.cells,Instr.sureAddr,Sem.run_bind,Sem.run_pure,Result.andThen_ok,sizeSe_run,hs,ne_eq,not_true_eq_false,if_false,hst]
 exact hK _ _ (h _ (setRow_heap w g old cs t (0,0) hb) setRow_stay8 (by simp [World.setRow]))
theorem Tryz.infoU32:(Tryz.prog.info? 43).map (fun i => (i.zero,i.size,i.bytes)) = some (some (.int .u32 0),1,4):=by kernel_rfl
theorem Tryz.infoI64T:(Tryz.prog.info? 2).map (fun i => (i.zero,i.size,i.bytes)) = some (some (.int .i64 0),1,8):=by kernel_rfl
theorem Tryz.infoBT:(Tryz.prog.info? 4).map (fun i => (i.zero,i.size,i.bytes)) = some (some (.bool false),1,1):=by kernel_rfl
theorem alloc_size (w:World) (o:Obj):(w.alloc o).heap.size = w.heap.size + 1:=by simp
end Go.Proofs.YtbmmcbagdomonaaGreat
