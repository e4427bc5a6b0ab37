import Derived.Test.YtkpmfkkfcikfhaaV45
import Derived.Test.YtkpmfkkfcikfhaaV47
set_option maxRecDepth 100000
set_option maxHeartbeats 8000000
namespace Go.Proofs.Ytkpmfkkfcikfhaa
open Go.RowKit
set_option linter.unusedVariables false
set_option linter.unusedSimpArgs false
def skipR (l:List AtA) (k n:Nat):List AtA:=(l.take n).eraseIdx k
theorem take_one8 (l:List AtA) {n:Nat} (h:n < l.length):l.take (n + 1) = l.take n ++ [l.getD n noAtA]:=by
 rw [List.take_add_one,List.getElem?_eq_getElem h,List.getD_eq_getElem?_getD,List.getElem?_eq_getElem h]
 rfl
theorem skip_same (l:List AtA) {k:Nat} (h:k < l.length):skipR l k (k + 1) = skipR l k k:=by
 unfold skipR
 have e:(l.take k).length = k:=by rw [List.length_take]; omega
 rw [take_one8 l h,List.eraseIdx_append_of_length_le (by omega),e,Nat.sub_self,show [l.getD k noAtA].eraseIdx 0 = [] from rfl,List.append_nil]
 exact (List.eraseIdx_of_length_le (by omega)).symm
theorem erase_perm:∀ (l:List AtA) (k:Nat),k < l.length → l.Perm (l.eraseIdx k ++ [l.getD k noAtA])
 | [],k,h => by simp at h
 | a :: r,0,_ => List.perm_append_comm (l₁:=[a]) (l₂:=r)
 | a :: r,k + 1,h => (erase_perm r k (by simpa using h)).cons a
theorem skip_more (l:List AtA) {k n:Nat} (h:n < l.length) (hne:n ≠ k):skipR l k (n + 1) = skipR l k n ++ [l.getD n noAtA]:=by
 unfold skipR
 have e:(l.take n).length = n:=by rw [List.length_take]; omega
 rw [take_one8 l h]
 rcases Nat.lt_or_gt_of_ne hne with h1 | h1
 ·rw [List.eraseIdx_of_length_le (by rw [List.length_append,e]; simp; omega),List.eraseIdx_of_length_le (by omega)]
 ·rw [List.eraseIdx_append_of_lt_length (by omega)]
theorem skip_perm (l:List AtA) {k:Nat} (h:k < l.length):l.Perm (skipR l k l.length ++ [l.getD k noAtA]):=by
 unfold skipR
 rw [List.take_length]
 exact erase_perm l k h
theorem skip_mem {l:List AtA} {k n:Nat} {x:AtA} (h:x ∈ skipR l k n):x ∈ l:=List.mem_of_mem_take (List.mem_of_mem_eraseIdx h)
theorem res_err {op nm:Str} {ins outs:List Str} {l:List AttrD} {r1:Int} {r2:SeD} {r3:Int} (h:resV (op,nm,ins,outs,l) = (r1,r2,r3)) :
  (r3 = 0 ∧ r1 = numT op ∧ r1 ≠ 0 ∧ takesB (rowT (numT op)).2.1 (rowT (numT op)).2.2.1 (rowT (numT op)).2.2.2.1 (rowT (numT op)).2.2.2.2.1 ins outs = true ∧ settingV (rowT (numT op)).2.2.2.2.2 l = some r2 ∧ ¬ (numT op = 61 ∧ l.length ≠ 1)) ∨ (r1 = 0 ∧ (r3 = 7 ∨ r3 = 1 ∨ r3 = 14)):=by
 unfold resV at h
 simp only at h
 split at h
 ·simp only [Prod.mk.injEq] at h; exact .inr ⟨h.1.symm,.inl h.2.2.symm⟩
 rename_i h0
 split at h
 ·simp only [Prod.mk.injEq] at h; exact .inr ⟨h.1.symm,.inr (.inl h.2.2.symm)⟩
 rename_i h1
 split at h
 ·simp only [Prod.mk.injEq] at h; exact .inr ⟨h.1.symm,.inr (.inr h.2.2.symm)⟩
 rename_i D hD
 split at h
 ·simp only [Prod.mk.injEq] at h; exact .inr ⟨h.1.symm,.inr (.inr h.2.2.symm)⟩
 rename_i h61
 simp only [Prod.mk.injEq] at h
 obtain ⟨e1,e2,e3⟩:=h
 subst e1 e2 e3
 exact .inl ⟨rfl,rfl,h0,by simpa using h1,hD,h61⟩
theorem res_of {op nm:Str} {ins outs:List Str} {m:List AttrD} {E:SeD} (h0:numT op ≠ 0) (h1:takesB (rowT (numT op)).2.1 (rowT (numT op)).2.2.1 (rowT (numT op)).2.2.2.1 (rowT (numT op)).2.2.2.2.1 ins outs = true) (h2:settingV (rowT (numT op)).2.2.2.2.2 m = some E) (h3:¬ (numT op = 61 ∧ m.length ≠ 1)):resV (op,nm,ins,outs,m) = (numT op,E,0):=by
 unfold resV
 simp only
 rw [if_neg h0,if_neg (by rw [h1]; decide),h2]
 simp only
 rw [if_neg h3]
theorem dfl_all {op nm:Str} {ins outs:List Str} {l m:List AttrD} {a:AttrD} {r1 t1 t3:Int} {r2 t2:SeD} (h1:resV (op,nm,ins,outs,l) = (r1,r2,0)) (hl:l.Perm (m ++ [a])) (h2:resV (op,nm,ins,outs,m) = (t1,t2,t3)) :
  t3 = 14 ∨ (t3 = 0 ∧ ∀ a2,dflA t2 a = some a2 → resV (op,nm,ins,outs,m ++ [a2]) = (r1,t2,0) ∧ r2 16 = t2 16):=by
 rcases res_err h1 with ⟨_,e1,e0,e2,e3,e4⟩ | ⟨_,h⟩
 ·have hlen:=hl.length_eq
  simp only [List.length_append,List.length_cons,List.length_nil] at hlen
  rcases res_err h2 with ⟨f0,f1,f2,f3,f4,f5⟩ | ⟨_,h⟩
  ·refine .inr ⟨f0,fun a2 h3 => ?_⟩
   have h61:numT op ≠ 61:=fun e => by
    have:l.length = 1:=Classical.byContradiction fun h => e4 ⟨e,h⟩
    have:m.length = 1:=Classical.byContradiction fun h => f5 ⟨e,h⟩
    omega
   have hd:=set_dfl (rows_so _) (rows_apart _ h61) (rows_dfl _) hl e3 f4 h3
   exact ⟨by rw [e1]; exact res_of (by rw [← e1]; exact e0) e2 hd.1 (fun h => h61 h.1),hd.2⟩
  ·rcases h with h | h | h
   ·exfalso
    unfold resV at h2
    simp only at h2
    rw [if_neg (by rw [← e1]; exact e0),if_neg (by rw [e2]; decide)] at h2
    split at h2
    ·simp only [Prod.mk.injEq] at h2; omega
    ·split at h2
     ·simp only [Prod.mk.injEq] at h2; omega
     ·simp only [Prod.mk.injEq] at h2; omega
   ·exfalso
    unfold resV at h2
    simp only at h2
    rw [if_neg (by rw [← e1]; exact e0),if_neg (by rw [e2]; decide)] at h2
    split at h2
    ·simp only [Prod.mk.injEq] at h2; omega
    ·split at h2
     ·simp only [Prod.mk.injEq] at h2; omega
     ·simp only [Prod.mk.injEq] at h2; omega
   ·exact .inl h
 ·omega
theorem FIn.w0 {B g:Nat} {w:World} {cs:Array Value} {k:Nat}:∀ {f:FV},FIn B g w cs k f → kindF f = 0 → (Lit.int .i64 f.x).wf = true
 | ⟨0,_,_,_,_⟩,h,e => h.2
 | ⟨1,_,_,_,_⟩,h,e => by simp [kindF] at e
 | ⟨2,_,_,_,_⟩,h,e => by simp [kindF] at e
 | ⟨3,_,_,_,_⟩,h,e => by simp [kindF] at e
 | ⟨_ + 4,_,_,_,_⟩,h,e => by simp [kindF] at e
theorem FIn.w1 {B g:Nat} {w:World} {cs:Array Value} {k:Nat}:∀ {f:FV},FIn B g w cs k f → kindF f = 1 → (Lit.int .u32 f.x).wf = true
 | ⟨0,_,_,_,_⟩,h,e => by simp [kindF] at e
 | ⟨1,_,_,_,_⟩,h,e => h.2
 | ⟨2,_,_,_,_⟩,h,e => by simp [kindF] at e
 | ⟨3,_,_,_,_⟩,h,e => by simp [kindF] at e
 | ⟨_ + 4,_,_,_,_⟩,h,e => by simp [kindF] at e
theorem box_i8 {B g k:Nat} {w w':World} {cs:Array Value} {t:TypeId} {D:SeD} (hb:Box w g cs t) (h:SeV B w' cs D) (hk:k ≤ 31) (hf:kindsK.getD k 0 = 0):w.cell? ⟨g,k,none⟩ = some (.int .i64 (D k).x) ∧ (Lit.int .i64 (D k).x).wf = true:=by
 have hc:=hb.cell k
 obtain ⟨h1,h2⟩:=h.2 k hk
 rw [hf] at h2
 have h3:=h1.k0 h2
 exact ⟨hc.trans h3,h1.w0 h2⟩
theorem box_u8 {B g k:Nat} {w w':World} {cs:Array Value} {t:TypeId} {D:SeD} (hb:Box w g cs t) (h:SeV B w' cs D) (hk:k ≤ 31) (hf:kindsK.getD k 0 = 1):w.cell? ⟨g,k,none⟩ = some (.int .u32 (D k).x) ∧ (Lit.int .u32 (D k).x).wf = true:=by
 have hc:=hb.cell k
 obtain ⟨h1,h2⟩:=h.2 k hk
 rw [hf] at h2
 have h3:=h1.k1 h2
 exact ⟨hc.trans h3,h1.w1 h2⟩
theorem box_b8 {B g k:Nat} {w w':World} {cs:Array Value} {t:TypeId} {D:SeD} (hb:Box w g cs t) (h:SeV B w' cs D) (hk:k ≤ 31) (hf:kindsK.getD k 0 = 2):w.cell? ⟨g,k,none⟩ = some (.bool (D k).y):=by
 have hc:=hb.cell k
 obtain ⟨h1,h2⟩:=h.2 k hk
 rw [hf] at h2
 exact hc.trans (h1.k2 h2)
theorem Ls.hold8 {α:Type} [Inhabited α] {f:α → Value} {B:Nat} {w w':World} {p:Option Addr} {c:Nat} {xs:List α} (h:Ls f w p c xs) (hB:∀ b o,p = some ⟨b,o,none⟩ → 0 < xs.length → B ≤ b) (hs:w.heap.size ≤ w'.heap.size) (hk:∀ k,B ≤ k → k < w.heap.size → w'.heap[k]? = w.heap[k]?):Ls f w' p c xs:=by
 obtain ⟨h1,h2,h4,h5⟩:=h
 refine ⟨h1,h2,fun hp => ?_,h5⟩
 obtain ⟨b,o,e,g1,g2⟩:=h4 hp
 exact ⟨b,o,e,Nat.lt_of_lt_of_le g1 hs,fun i hi => (World.cell?_of_block (w:=w) (hk b (hB b o e hp) g1)).trans (g2 i hi)⟩
theorem OwL.hold {kd:IntKind} {B g g':Nat} {w w':World} {p:Option Addr} {c:Nat} {xs:List Int} (h:OwL kd B g w p c xs) (hg:w'.heap.size ≤ g') (hs:w.heap.size ≤ w'.heap.size) (hk:∀ k,B ≤ k → k < w.heap.size → w'.heap[k]? = w.heap[k]?):OwL kd B g' w' p c xs:=by
 refine ⟨(h.1.ls.hold8 (fun b o e hp => (h.2 b o e hp).1) hs hk).ints h.1.2.2.1,fun b o e hp => ?_⟩
 obtain ⟨h1,h2,h3⟩:=h.2 b o e hp
 obtain ⟨b',o',e',hb,_⟩:=h.1.ls.lies hp
 rw [e] at e'
 simp only [Option.some.injEq,Addr.mk.injEq] at e'
 obtain ⟨rfl,rfl,_⟩:=e'
 exact ⟨h1,⟨by omega,by omega⟩,fun i hi => (World.frozen?_of_block (w:=w) (hk b h1 hb)).trans (h3 i hi)⟩
theorem OwB.hold {B g g':Nat} {w w':World} {p:Option Addr} {c:Nat} {xs:List Bool} (h:OwB B g w p c xs) (hg:w'.heap.size ≤ g') (hs:w.heap.size ≤ w'.heap.size) (hk:∀ k,B ≤ k → k < w.heap.size → w'.heap[k]? = w.heap[k]?):OwB B g' w' p c xs:=by
 refine ⟨h.1.hold8 (fun b o e hp => (h.2 b o e hp).1) hs hk,fun b o e hp => ?_⟩
 obtain ⟨h1,h2,h3⟩:=h.2 b o e hp
 obtain ⟨b',o',e',hb,_⟩:=h.1.lies hp
 rw [e] at e'
 simp only [Option.some.injEq,Addr.mk.injEq] at e'
 obtain ⟨rfl,rfl,_⟩:=e'
 exact ⟨h1,⟨by omega,by omega⟩,fun i hi => (World.frozen?_of_block (w:=w) (hk b h1 hb)).trans (h3 i hi)⟩
theorem FIn.hold {B g g':Nat} {w w':World} {cs:Array Value} {k:Nat} (hg:w'.heap.size ≤ g') (hs:w.heap.size ≤ w'.heap.size) (hk:∀ k,B ≤ k → k < w.heap.size → w'.heap[k]? = w.heap[k]?):∀ {f:FV},FIn B g w cs k f → FIn B g' w' cs k f
 | ⟨0,_,_,_,_⟩,h => h
 | ⟨1,_,_,_,_⟩,h => h
 | ⟨2,_,_,_,_⟩,h => h
 | ⟨3,_,_,_,_⟩,⟨p,c,h1,h2⟩ => ⟨p,c,h1,h2.hold hg hs hk⟩
 | ⟨_ + 4,_,_,_,_⟩,⟨A,h1,h2⟩ => ⟨A,h1,h2.1,h2.2.1.hold hg hs hk,h2.2.2.1.hold hg hs hk,h2.2.2.2.1.hold hg hs hk,h2.2.2.2.2.hold hg hs hk⟩
theorem SeV.hold {B:Nat} {w w':World} {cs:Array Value} {D:SeD} (h:SeV B w cs D) (hs:w.heap.size ≤ w'.heap.size) (hk:∀ k,B ≤ k → k < w.heap.size → w'.heap[k]? = w.heap[k]?):SeV B w' cs D:=⟨h.1,fun k hk2 => ⟨(h.2 k hk2).1.hold (Nat.le_refl _) hs hk,(h.2 k hk2).2⟩⟩
theorem SeV.i8 {B k:Nat} {w:World} {cs:Array Value} {D:SeD} (h:SeV B w cs D) (hk:k ≤ 31) (hf:kindsK.getD k 0 = 0):(Lit.int .i64 (D k).x).wf = true:=(h.2 k hk).1.w0 ((h.2 k hk).2.trans hf)
theorem SeV.u8 {B k:Nat} {w:World} {cs:Array Value} {D:SeD} (h:SeV B w cs D) (hk:k ≤ 31) (hf:kindsK.getD k 0 = 1):(Lit.int .u32 (D k).x).wf = true:=(h.2 k hk).1.w1 ((h.2 k hk).2.trans hf)
end Go.Proofs.Ytkpmfkkfcikfhaa
