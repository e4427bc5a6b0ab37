import Derived.Test.YtbmmcbagdomonaaGreatV32
set_option maxRecDepth 100000
set_option maxHeartbeats 40000000
namespace Go.Proofs.YtbmmcbagdomonaaGreat
open Go.RowKit
set_option linter.unusedVariables false
set_option linter.unusedSimpArgs false
def stepS (ats:List AtD) (st:Option (SeD × List Bool)) (a:AttrD):Option (SeD × List Bool) :=
 match st with
 | none => none
 | some (D,sn) =>
   if idxI (fun d:AtD => decide (d.1 = a.1)) ats < 0 then none
   else if sn.getD (idxI (fun d:AtD => decide (d.1 = a.1)) ats).toNat false = true then none
   else match takeV (ats.getD (idxI (fun d:AtD => decide (d.1 = a.1)) ats).toNat noAtD).2.1 (ats.getD (idxI (fun d:AtD => decide (d.1 = a.1)) ats).toNat noAtD).1 a.2.1 a.2.2.1 a.2.2.2.1 a.2.2.2.2.1 a.2.2.2.2.2.1 a.2.2.2.2.2.2.1 a.2.2.2.2.2.2.2 with
    | none => none
    | some l => some (updL D l,sn.set (idxI (fun d:AtD => decide (d.1 = a.1)) ats).toNat true)
def foldS (ats:List AtD) (l:List AttrD):Option (SeD × List Bool):=l.foldl (stepS ats) (some (standD ats,List.replicate ats.length false))
def needB (ats:List AtD) (sn:List Bool):Nat → Bool:=fun n => decide ((ats.getD n noAtD).2.2.2 = 1) && !(sn.getD n false)
def settingV (ats:List AtD) (l:List AttrD):Option SeD :=
 match foldS ats l with
 | none => none
 | some (D,sn) => if (List.range ats.length).any (needB ats sn) = true then none else if (D 24).x = 0 ∨ (l.any fun a => decide (a.1 = [112,97,100,115])) = false then some D else none
theorem fold_none (ats:List AtD):∀ l:List AttrD,l.foldl (stepS ats) none = none
 | [] => rfl
 | _ :: r => fold_none ats r
theorem fold_take (ats:List AtD) (l:List AttrD) (z:AttrD) (n:Nat) (h:n < l.length):foldS ats (l.take (n + 1)) = stepS ats (foldS ats (l.take n)) (l.getD n z):=by
 unfold foldS
 rw [List.take_add_one,List.foldl_append,List.getD_eq_getElem?_getD,List.getElem?_eq_getElem h]
 rfl
theorem fold_cut (ats:List AtD) (l:List AttrD) (n:Nat) (h:foldS ats (l.take n) = none):foldS ats l = none:=by
 unfold foldS at *
 rw [← List.take_append_drop n l,List.foldl_append,h]
 exact fold_none ats _
def bc8 (x:Bool):List Value:=[.bool x]
theorem bcWd8:Wd 1 bc8:=⟨by decide,fun _ => rfl,fun a u hu => by simp [bc8] at hu; subst hu; rfl⟩
theorem results_se2 {fn:Func} {tmps:Array Value} {w:World} {g k j:Nat} {cs:Array Value} {t:TypeId} (hf:fn.results = #[.cell k 49,.tmp j]) (hk:tmps.getD k undef = .pointer (some ⟨g,0,none⟩)) (hb:Box w g cs t) (hs:cs.size = 36):(results fn tmps).run Tryz.prog w = .ok (.tuple #[.agg cs,tmps.getD j undef]) w:=by
 have e:=loadVar_box8 hb hs
 unfold results
 rw [hf]
 simp only [List.mapM_toArray,List.mapM_cons,List.mapM_nil,hk,asAddr,Sem.run_bind,Sem.run_pure,Result.andThen_ok,e,Sem.run_map]
 simp [e]
theorem results_se3 {fn:Func} {tmps:Array Value} {w:World} {g k i j:Nat} {cs:Array Value} {t:TypeId} (hf:fn.results = #[.tmp i,.cell k 49,.tmp j]) (hk:tmps.getD k undef = .pointer (some ⟨g,0,none⟩)) (hb:Box w g cs t) (hs:cs.size = 36):(results fn tmps).run Tryz.prog w = .ok (.tuple #[tmps.getD i undef,.agg cs,tmps.getD j undef]) w:=by
 have e:=loadVar_box8 hb hs
 unfold results
 rw [hf]
 simp only [List.mapM_toArray,List.mapM_cons,List.mapM_nil,hk,asAddr,Sem.run_bind,Sem.run_pure,Result.andThen_ok,e,Sem.run_map]
 simp [e]
theorem zero_ones:Ones zeroC:=(zero_in 0 0 default).ones
theorem Ls.holdS {α:Type} [Inhabited α] {f:α → Value} {OK:Nat → Prop} {w w':World} {p:Option Addr} {c:Nat} {xs:List α} (h:Ls f w p c xs) (hB:∀ b o,p = some ⟨b,o,none⟩ → 0 < xs.length → OK b) (hs:w.heap.size ≤ w'.heap.size) (hk:∀ k,OK k → k < w.heap.size → w'.heap[k]? = w.heap[k]?):Ls f w' p c xs:=by
 obtain ⟨h1,h2,h4,h5⟩:=h
 refine ⟨h1,h2,fun hp => ?_,h5⟩
 obtain ⟨b,o,e,g1,g2⟩:=h4 hp
 exact ⟨b,o,e,Nat.lt_of_lt_of_le g1 hs,fun i hi => (World.cell?_of_block (w:=w) (hk b (hB b o e hp) g1)).trans (g2 i hi)⟩
end Go.Proofs.YtbmmcbagdomonaaGreat
