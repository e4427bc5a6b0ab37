import Derived.Test.YtkpmfkkfcikfhaaV42
set_option maxRecDepth 100000
set_option maxHeartbeats 8000000
namespace Go.Proofs.Ytkpmfkkfcikfhaa
open Go.RowKit
set_option linter.unusedVariables false
set_option linter.unusedSimpArgs false
theorem at1_8 {w:World} {k:Nat} {A:AtA} {cs:Array Value} (hk:w.heap.size = k) (hc:cs = (atCells A).toArray):Rc 12 atCells noAtA (w.alloc (.cells cs 52)) (some ⟨k,0,none⟩) 1 [A]:=by
 subst hk
 exact rc_new atWd w _ hc
theorem Box.grown8 {β:Type} {k:Nat} {cells:β → List Value} {w w0 w':World} {g:Nat} {cs:Array Value} {t e:TypeId} {v:Value} {l:List β} (h:Box w g cs t) (ho:OwnR e k cells w0 w v l) (hne:¬ e = t) (hg:w.grownBy w' v.ownBlock):Box w' g cs t:=by
 have hlt:=h.lt
 refine (hg.block g hlt (fun e2 => ?_)).trans h
 rcases ho.1.2 with ⟨hv,_⟩ | ⟨k,cap,cur,hv,_,hh,_⟩
 ·rw [hv] at e2; cases e2
 ·rw [hv] at e2
  simp only [Value.ownBlock,Option.some.injEq] at e2
  subst e2
  unfold Box at h
  rw [h] at hh
  simp only [Option.some.injEq,Obj.cells.injEq] at hh
  exact hne hh.2.1.symm
theorem OwnR.set8 {β:Type} {k:Nat} {cells:β → List Value} {w0 w:World} {g j:Nat} {cs:Array Value} {t e:TypeId} {u v:Value} {l:List β} (h:OwnR e k cells w0 w v l) (hb:Box w g cs t) (hne:¬ e = t) (hB:w0.heap.size ≤ g):OwnR e k cells w0 (w.setCell ⟨g,j,none⟩ u) v l:=by
 obtain ⟨⟨l1,h1⟩,h2⟩:=h
 have h3:Below w0.heap.size w0 (w.setCell ⟨g,j,none⟩ u):=Below.setCell h2 (p:=⟨g,j,none⟩) hB u
 refine ⟨⟨l1,?_⟩,h3⟩
 rcases h1 with ⟨rfl,h0⟩ | ⟨n,cap,cur,rfl,hb1,hh,hc,hm,hs,ht⟩
 ·exact .inl ⟨rfl,h0⟩
 ·refine .inr ⟨n,cap,cur,rfl,hb1,(Below.heap_setCell _ _ _ _ (fun e2 => ?_)).trans hh,hc,hm,hs,ht⟩
  unfold Box at hb
  simp only at e2
  subst e2
  rw [hb] at hh
  simp only [Option.some.injEq,Obj.cells.injEq] at hh
  exact hne hh.2.1.symm
def NoA.put (a:NoA) (l:List AtA) (q:Option Addr) (c:Nat):NoA:=⟨a.op,a.nm,a.ins,a.qi,a.ci,a.outs,a.qo,a.co,l,q,c⟩
theorem NoIn.with8 {B:Nat} {w0 w:World} {N:NoA} {l:List AtA} {v:Value} (h:NoIn B w N) (hl:∀ x ∈ l,AtIn B w x) (ho:OwnR 52 12 atCells w0 w v l):∃ q c,v = .slice q l.length c ∧ NoIn B w (N.put l q c):=by
 obtain ⟨h1,h2,h3,h4,h5,h6,h7⟩:=h
 obtain ⟨q,c,e,hr,_⟩:=ho.form (z:=noAtA) atWd
 subst e
 exact ⟨q,c,rfl,h1,h2,h3,h4,hl,hr,own_tag ho.1⟩
theorem NoIn.set8 {B:Nat} {w:World} {N:NoA} {g j:Nat} {cs:Array Value} {u:Value} (h:NoIn B w N) (hb:Box w g cs 36) (hB:B ≤ g):NoIn B (w.setCell ⟨g,j,none⟩ u) N:=h.kept (TS:=nodeTS) (fun t h => h) (Kept.set hb hB (by decide))
theorem Try.info8Attr:(Try.prog.info? 52).map (fun i => (i.zero,i.size,i.bytes)) = some (some (.agg #[.string { data:=#[] },.int .i64 0,.int .u32 0,.int .i64 0,.string { data:=#[] },.int .i64 0,.slice none 0 0,.slice none 0 0,.slice none 0 0,.slice none 0 0,.slice none 0 0,.slice none 0 0]),12,208):=by kernel_rfl
end Go.Proofs.Ytkpmfkkfcikfhaa
