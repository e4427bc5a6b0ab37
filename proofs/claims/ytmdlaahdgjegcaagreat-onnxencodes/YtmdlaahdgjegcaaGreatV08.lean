import Derived.Deep.RegionLawGrows
import Derived.Deep.RegionHeld3
import Derived.Test.YtmdlaahdgjegcaaGreatV04
import Derived.Test.YtmdlaahdgjegcaaGreatV07
set_option maxRecDepth 100000
set_option maxHeartbeats 8000000
namespace Go.Proofs.YtmdlaahdgjegcaaGreat
open Go.RowKit
set_option linter.unusedVariables false
theorem alloc_size6 (w:World) (o:Obj):(w.alloc o).heap.size = w.heap.size + 1:=by simp
theorem al2p (w:World) (a b:Obj):Below w.heap.size w ((w.alloc a).alloc b):=((Below.refl _ _).alloc (Nat.le_refl _) _).alloc (by simp) _
theorem i64_wf {x:Int} (h0:-9223372036854775808 ≤ x) (h1:x ≤ 9223372036854775807):(Lit.int .i64 x).wf = true:=by
 simp [Lit.wf,IntKind.min,IntKind.max,IntKind.signed,IntKind.bits]; omega
theorem u64_wf {x:Int} (h0:0 ≤ x) (h1:x < 18446744073709551616):(Lit.int .u64 x).wf = true:=by
 simp [Lit.wf,IntKind.min,IntKind.max,IntKind.signed,IntKind.bits]; omega
theorem nil8 (w:World):Ints .u8 w none 0 []:=⟨by simp,by omega,by simp,by simp,fun _ => rfl⟩
theorem Ls.far {α:Type} [Inhabited α] {f:α → Value} {w:World} {p:Option Addr} {c b k:Nat} {v:Value} {xs:List α} (h:Ls f w p c xs) (hne:∀ b' o',p = some ⟨b',o',none⟩ → 0 < xs.length → b' ≠ b):Ls f (w.setCell ⟨b,k,none⟩ v) p c xs:=by
 obtain ⟨h1,h2,h4,h5⟩:=h
 refine ⟨h1,h2,fun hp => ?_,h5⟩
 obtain ⟨b',o',e,g1,g2⟩:=h4 hp
 exact ⟨b',o',e,by simpa [World.setCell] using g1,fun i hi => (World.cell?_setCell_other _ _ _ _ (fun h => hne b' o' e hp (by simp only [Addr.mk.injEq] at h; omega))).trans (g2 i hi)⟩
theorem ls_cells {α:Type} [Inhabited α] {f:α → Value} {w:World} {ad:Addr} {c:Nat} {xs:List α} (hl:Ls f w (some ad) c xs):∀ j u,(xs.map f)[j]? = some u → w.cell? (ad.add j) = some u:=by
 rcases Nat.eq_zero_or_pos xs.length with g | g
 ·have:xs = []:=List.eq_nil_of_length_eq_zero g
  subst this
  intro j u hj; simp at hj
 ·obtain ⟨b,o,e,hb,hc⟩:=hl.lies g
  simp only [Option.some.injEq] at e
  subst e; exact lsMap_cells hc
theorem Ls.far5 {α:Type} [Inhabited α] {f:α → Value} {w:World} {p:Option Addr} {c g r B:Nat} {xs:List α} (h:Ls f w p c xs) (hF:Fresh B w p xs.length) (hg:g < B) (hr:r < B) (j:Nat) (u u0 u1 u2 u3:Value) :
  Ls f (((((w.setCell ⟨g,j,none⟩ u).setCell ⟨r,0,none⟩ u0).setCell ⟨r,1,none⟩ u1).setCell ⟨r,2,none⟩ u2).setCell ⟨r,3,none⟩ u3) p c xs:=by
 have h1:∀ b o,p = some ⟨b,o,none⟩ → 0 < xs.length → b ≠ g:=fun b o e hp => by have:=(hF b o e hp).1; omega
 have h2:∀ b o,p = some ⟨b,o,none⟩ → 0 < xs.length → b ≠ r:=fun b o e hp => by have:=(hF b o e hp).1; omega
 exact ((((h.far h1).far h2).far h2).far h2).far h2
def DTy (t:TypeId) (w:World) (a:FA):Prop:=0 < a.d.length → ∃ b o cur,a.q = some ⟨b,o,none⟩ ∧ w.heap[b]? = some (.cells cur t (0,0))
theorem FaIn.grown {t e:TypeId} {w w0 w':World} {a:FA} {v:Value} {l:List FA} (h:FaIn w a) (hd:DTy t w a) (ho:OwnF e w0 w v l) (hne:¬ e = t) (hg:w.grownBy w' v.ownBlock):FaIn w' a ∧ DTy t w' a:=by
 have key:∀ (b:Nat) (cur:Array Value),w.heap[b]? = some (Obj.cells cur t (0,0)) → w'.heap[b]? = w.heap[b]?:=fun b cur hb => by
  refine hg.block b (lt_of_block hb) (fun e2 => ?_)
  rcases ho.1.2 with ⟨hv,_⟩ | ⟨k,cap,cur2,hv,_,hh,_⟩
  ·rw [hv] at e2; cases e2
  ·rw [hv] at e2
   simp only [Value.ownBlock,Option.some.injEq] at e2
   subst e2
   rw [hb] at hh
   simp only [Option.some.injEq,Obj.cells.injEq] at hh
   exact hne hh.2.1.symm
 refine ⟨⟨h.1,h.2.1,h.2.2.1,?_⟩,fun hp => ?_⟩
 ·obtain ⟨g1,g2,g3,g4,g5⟩:=h.2.2.2
  refine ⟨g1,g2,g3,fun hp => ?_,g5⟩
  obtain ⟨b,o,cur,e,hh⟩:=hd hp
  obtain ⟨b',o',e',hb',hc'⟩:=g4 hp
  rw [e] at e'
  simp only [Option.some.injEq,Addr.mk.injEq] at e'
  obtain ⟨rfl,rfl,_⟩:=e'
  exact ⟨b,o,e,Nat.lt_of_lt_of_le hb' hg.size,fun i hi => (World.cell?_of_block (w:=w) (key b cur hh)).trans (hc' i hi)⟩
 ·obtain ⟨b,o,cur,e,hh⟩:=hd hp
  exact ⟨b,o,cur,e,(key b cur hh).trans hh⟩
theorem Box.set2 {w:World} {g:Nat} {a0 a1:Value} {t:TypeId} (h:Box w g #[a0,a1] t) (u0 u1:Value):Box ((w.setCell ⟨g,0,none⟩ u0).setCell ⟨g,1,none⟩ u1) g #[u0,u1] t:=by
 have h0:Box (w.setCell ⟨g,0,none⟩ u0) g #[u0,a1] t:=h.same 0 u0
 have h1:Box ((w.setCell ⟨g,0,none⟩ u0).setCell ⟨g,1,none⟩ u1) g #[u0,u1] t:=h0.same 1 u1
 exact h1
theorem Box.off2 {w:World} {k g:Nat} {cs:Array Value} {t:TypeId} (h:Box w k cs t) (hne:k ≠ g) (u0 u1:Value):Box ((w.setCell ⟨g,0,none⟩ u0).setCell ⟨g,1,none⟩ u1) k cs t:=by
 have h0:Box (w.setCell ⟨g,0,none⟩ u0) k cs t:=Box.other h hne 0 u0
 have h1:Box ((w.setCell ⟨g,0,none⟩ u0).setCell ⟨g,1,none⟩ u1) k cs t:=Box.other h0 hne 1 u1
 exact h1
theorem Box.set3 {w:World} {g:Nat} {a0 a1 a2:Value} {t:TypeId} (h:Box w g #[a0,a1,a2] t) (u0 u1 u2:Value):Box (((w.setCell ⟨g,0,none⟩ u0).setCell ⟨g,1,none⟩ u1).setCell ⟨g,2,none⟩ u2) g #[u0,u1,u2] t:=by
 have h0:Box (w.setCell ⟨g,0,none⟩ u0) g #[u0,a1,a2] t:=h.same 0 u0
 have h1:Box ((w.setCell ⟨g,0,none⟩ u0).setCell ⟨g,1,none⟩ u1) g #[u0,u1,a2] t:=h0.same 1 u1
 have h2:Box (((w.setCell ⟨g,0,none⟩ u0).setCell ⟨g,1,none⟩ u1).setCell ⟨g,2,none⟩ u2) g #[u0,u1,u2] t:=h1.same 2 u2
 exact h2
theorem Box.off3 {w:World} {k g:Nat} {cs:Array Value} {t:TypeId} (h:Box w k cs t) (hne:k ≠ g) (u0 u1 u2:Value):Box (((w.setCell ⟨g,0,none⟩ u0).setCell ⟨g,1,none⟩ u1).setCell ⟨g,2,none⟩ u2) k cs t:=by
 have h0:Box (w.setCell ⟨g,0,none⟩ u0) k cs t:=Box.other h hne 0 u0
 have h1:Box ((w.setCell ⟨g,0,none⟩ u0).setCell ⟨g,1,none⟩ u1) k cs t:=Box.other h0 hne 1 u1
 have h2:Box (((w.setCell ⟨g,0,none⟩ u0).setCell ⟨g,1,none⟩ u1).setCell ⟨g,2,none⟩ u2) k cs t:=Box.other h1 hne 2 u2
 exact h2
theorem Box.set5 {w:World} {g:Nat} {a0 a1 a2 a3 a4:Value} {t:TypeId} (h:Box w g #[a0,a1,a2,a3,a4] t) (u0 u1 u2 u3 u4:Value):Box (((((w.setCell ⟨g,0,none⟩ u0).setCell ⟨g,1,none⟩ u1).setCell ⟨g,2,none⟩ u2).setCell ⟨g,3,none⟩ u3).setCell ⟨g,4,none⟩ u4) g #[u0,u1,u2,u3,u4] t:=by
 have h0:Box (w.setCell ⟨g,0,none⟩ u0) g #[u0,a1,a2,a3,a4] t:=h.same 0 u0
 have h1:Box ((w.setCell ⟨g,0,none⟩ u0).setCell ⟨g,1,none⟩ u1) g #[u0,u1,a2,a3,a4] t:=h0.same 1 u1
 have h2:Box (((w.setCell ⟨g,0,none⟩ u0).setCell ⟨g,1,none⟩ u1).setCell ⟨g,2,none⟩ u2) g #[u0,u1,u2,a3,a4] t:=h1.same 2 u2
 have h3:Box ((((w.setCell ⟨g,0,none⟩ u0).setCell ⟨g,1,none⟩ u1).setCell ⟨g,2,none⟩ u2).setCell ⟨g,3,none⟩ u3) g #[u0,u1,u2,u3,a4] t:=h2.same 3 u3
 have h4:Box (((((w.setCell ⟨g,0,none⟩ u0).setCell ⟨g,1,none⟩ u1).setCell ⟨g,2,none⟩ u2).setCell ⟨g,3,none⟩ u3).setCell ⟨g,4,none⟩ u4) g #[u0,u1,u2,u3,u4] t:=h3.same 4 u4
 exact h4
theorem bset5 {B:Nat} {a w:World} (h:Below B a w) {g:Nat} (hg:B ≤ g) (u0 u1 u2 u3 u4:Value):Below B a (((((w.setCell ⟨g,0,none⟩ u0).setCell ⟨g,1,none⟩ u1).setCell ⟨g,2,none⟩ u2).setCell ⟨g,3,none⟩ u3).setCell ⟨g,4,none⟩ u4):=by
 have h0:Below B a (w.setCell ⟨g,0,none⟩ u0):=h.setCell hg u0
 have h1:Below B a ((w.setCell ⟨g,0,none⟩ u0).setCell ⟨g,1,none⟩ u1):=h0.setCell hg u1
 have h2:Below B a (((w.setCell ⟨g,0,none⟩ u0).setCell ⟨g,1,none⟩ u1).setCell ⟨g,2,none⟩ u2):=h1.setCell hg u2
 have h3:Below B a ((((w.setCell ⟨g,0,none⟩ u0).setCell ⟨g,1,none⟩ u1).setCell ⟨g,2,none⟩ u2).setCell ⟨g,3,none⟩ u3):=h2.setCell hg u3
 have h4:Below B a (((((w.setCell ⟨g,0,none⟩ u0).setCell ⟨g,1,none⟩ u1).setCell ⟨g,2,none⟩ u2).setCell ⟨g,3,none⟩ u3).setCell ⟨g,4,none⟩ u4):=h3.setCell hg u4
 exact h4
theorem Box.off5 {w:World} {k g:Nat} {cs:Array Value} {t:TypeId} (h:Box w k cs t) (hne:k ≠ g) (u0 u1 u2 u3 u4:Value):Box (((((w.setCell ⟨g,0,none⟩ u0).setCell ⟨g,1,none⟩ u1).setCell ⟨g,2,none⟩ u2).setCell ⟨g,3,none⟩ u3).setCell ⟨g,4,none⟩ u4) k cs t:=by
 have h0:Box (w.setCell ⟨g,0,none⟩ u0) k cs t:=Box.other h hne 0 u0
 have h1:Box ((w.setCell ⟨g,0,none⟩ u0).setCell ⟨g,1,none⟩ u1) k cs t:=Box.other h0 hne 1 u1
 have h2:Box (((w.setCell ⟨g,0,none⟩ u0).setCell ⟨g,1,none⟩ u1).setCell ⟨g,2,none⟩ u2) k cs t:=Box.other h1 hne 2 u2
 have h3:Box ((((w.setCell ⟨g,0,none⟩ u0).setCell ⟨g,1,none⟩ u1).setCell ⟨g,2,none⟩ u2).setCell ⟨g,3,none⟩ u3) k cs t:=Box.other h2 hne 3 u3
 have h4:Box (((((w.setCell ⟨g,0,none⟩ u0).setCell ⟨g,1,none⟩ u1).setCell ⟨g,2,none⟩ u2).setCell ⟨g,3,none⟩ u3).setCell ⟨g,4,none⟩ u4) k cs t:=Box.other h3 hne 4 u4
 exact h4
theorem Box.set6 {w:World} {g:Nat} {a0 a1 a2 a3 a4 a5:Value} {t:TypeId} (h:Box w g #[a0,a1,a2,a3,a4,a5] t) (u0 u1 u2 u3 u4 u5:Value):Box ((((((w.setCell ⟨g,0,none⟩ u0).setCell ⟨g,1,none⟩ u1).setCell ⟨g,2,none⟩ u2).setCell ⟨g,3,none⟩ u3).setCell ⟨g,4,none⟩ u4).setCell ⟨g,5,none⟩ u5) g #[u0,u1,u2,u3,u4,u5] t:=by
 have h0:Box (w.setCell ⟨g,0,none⟩ u0) g #[u0,a1,a2,a3,a4,a5] t:=h.same 0 u0
 have h1:Box ((w.setCell ⟨g,0,none⟩ u0).setCell ⟨g,1,none⟩ u1) g #[u0,u1,a2,a3,a4,a5] t:=h0.same 1 u1
 have h2:Box (((w.setCell ⟨g,0,none⟩ u0).setCell ⟨g,1,none⟩ u1).setCell ⟨g,2,none⟩ u2) g #[u0,u1,u2,a3,a4,a5] t:=h1.same 2 u2
 have h3:Box ((((w.setCell ⟨g,0,none⟩ u0).setCell ⟨g,1,none⟩ u1).setCell ⟨g,2,none⟩ u2).setCell ⟨g,3,none⟩ u3) g #[u0,u1,u2,u3,a4,a5] t:=h2.same 3 u3
 have h4:Box (((((w.setCell ⟨g,0,none⟩ u0).setCell ⟨g,1,none⟩ u1).setCell ⟨g,2,none⟩ u2).setCell ⟨g,3,none⟩ u3).setCell ⟨g,4,none⟩ u4) g #[u0,u1,u2,u3,u4,a5] t:=h3.same 4 u4
 have h5:Box ((((((w.setCell ⟨g,0,none⟩ u0).setCell ⟨g,1,none⟩ u1).setCell ⟨g,2,none⟩ u2).setCell ⟨g,3,none⟩ u3).setCell ⟨g,4,none⟩ u4).setCell ⟨g,5,none⟩ u5) g #[u0,u1,u2,u3,u4,u5] t:=h4.same 5 u5
 exact h5
theorem bset6 {B:Nat} {a w:World} (h:Below B a w) {g:Nat} (hg:B ≤ g) (u0 u1 u2 u3 u4 u5:Value):Below B a ((((((w.setCell ⟨g,0,none⟩ u0).setCell ⟨g,1,none⟩ u1).setCell ⟨g,2,none⟩ u2).setCell ⟨g,3,none⟩ u3).setCell ⟨g,4,none⟩ u4).setCell ⟨g,5,none⟩ u5):=by
 have h0:Below B a (w.setCell ⟨g,0,none⟩ u0):=h.setCell hg u0
 have h1:Below B a ((w.setCell ⟨g,0,none⟩ u0).setCell ⟨g,1,none⟩ u1):=h0.setCell hg u1
 have h2:Below B a (((w.setCell ⟨g,0,none⟩ u0).setCell ⟨g,1,none⟩ u1).setCell ⟨g,2,none⟩ u2):=h1.setCell hg u2
 have h3:Below B a ((((w.setCell ⟨g,0,none⟩ u0).setCell ⟨g,1,none⟩ u1).setCell ⟨g,2,none⟩ u2).setCell ⟨g,3,none⟩ u3):=h2.setCell hg u3
 have h4:Below B a (((((w.setCell ⟨g,0,none⟩ u0).setCell ⟨g,1,none⟩ u1).setCell ⟨g,2,none⟩ u2).setCell ⟨g,3,none⟩ u3).setCell ⟨g,4,none⟩ u4):=h3.setCell hg u4
 have h5:Below B a ((((((w.setCell ⟨g,0,none⟩ u0).setCell ⟨g,1,none⟩ u1).setCell ⟨g,2,none⟩ u2).setCell ⟨g,3,none⟩ u3).setCell ⟨g,4,none⟩ u4).setCell ⟨g,5,none⟩ u5):=h4.setCell hg u5
 exact h5
theorem Box.off6 {w:World} {k g:Nat} {cs:Array Value} {t:TypeId} (h:Box w k cs t) (hne:k ≠ g) (u0 u1 u2 u3 u4 u5:Value):Box ((((((w.setCell ⟨g,0,none⟩ u0).setCell ⟨g,1,none⟩ u1).setCell ⟨g,2,none⟩ u2).setCell ⟨g,3,none⟩ u3).setCell ⟨g,4,none⟩ u4).setCell ⟨g,5,none⟩ u5) k cs t:=by
 have h0:Box (w.setCell ⟨g,0,none⟩ u0) k cs t:=Box.other h hne 0 u0
 have h1:Box ((w.setCell ⟨g,0,none⟩ u0).setCell ⟨g,1,none⟩ u1) k cs t:=Box.other h0 hne 1 u1
 have h2:Box (((w.setCell ⟨g,0,none⟩ u0).setCell ⟨g,1,none⟩ u1).setCell ⟨g,2,none⟩ u2) k cs t:=Box.other h1 hne 2 u2
 have h3:Box ((((w.setCell ⟨g,0,none⟩ u0).setCell ⟨g,1,none⟩ u1).setCell ⟨g,2,none⟩ u2).setCell ⟨g,3,none⟩ u3) k cs t:=Box.other h2 hne 3 u3
 have h4:Box (((((w.setCell ⟨g,0,none⟩ u0).setCell ⟨g,1,none⟩ u1).setCell ⟨g,2,none⟩ u2).setCell ⟨g,3,none⟩ u3).setCell ⟨g,4,none⟩ u4) k cs t:=Box.other h3 hne 4 u4
 have h5:Box ((((((w.setCell ⟨g,0,none⟩ u0).setCell ⟨g,1,none⟩ u1).setCell ⟨g,2,none⟩ u2).setCell ⟨g,3,none⟩ u3).setCell ⟨g,4,none⟩ u4).setCell ⟨g,5,none⟩ u5) k cs t:=Box.other h4 hne 5 u5
 exact h5
theorem Box.set12 {w:World} {g:Nat} {a0 a1 a2 a3 a4 a5 a6 a7 a8 a9 a10 a11:Value} {t:TypeId} (h:Box w g #[a0,a1,a2,a3,a4,a5,a6,a7,a8,a9,a10,a11] t) (u0 u1 u2 u3 u4 u5 u6 u7 u8 u9 u10 u11:Value):Box ((((((((((((w.setCell ⟨g,0,none⟩ u0).setCell ⟨g,1,none⟩ u1).setCell ⟨g,2,none⟩ u2).setCell ⟨g,3,none⟩ u3).setCell ⟨g,4,none⟩ u4).setCell ⟨g,5,none⟩ u5).setCell ⟨g,6,none⟩ u6).setCell ⟨g,7,none⟩ u7).setCell ⟨g,8,none⟩ u8).setCell ⟨g,9,none⟩ u9).setCell ⟨g,10,none⟩ u10).setCell ⟨g,11,none⟩ u11) g #[u0,u1,u2,u3,u4,u5,u6,u7,u8,u9,u10,u11] t:=by
 have h0:Box (w.setCell ⟨g,0,none⟩ u0) g #[u0,a1,a2,a3,a4,a5,a6,a7,a8,a9,a10,a11] t:=h.same 0 u0
 have h1:Box ((w.setCell ⟨g,0,none⟩ u0).setCell ⟨g,1,none⟩ u1) g #[u0,u1,a2,a3,a4,a5,a6,a7,a8,a9,a10,a11] t:=h0.same 1 u1
 have h2:Box (((w.setCell ⟨g,0,none⟩ u0).setCell ⟨g,1,none⟩ u1).setCell ⟨g,2,none⟩ u2) g #[u0,u1,u2,a3,a4,a5,a6,a7,a8,a9,a10,a11] t:=h1.same 2 u2
 have h3:Box ((((w.setCell ⟨g,0,none⟩ u0).setCell ⟨g,1,none⟩ u1).setCell ⟨g,2,none⟩ u2).setCell ⟨g,3,none⟩ u3) g #[u0,u1,u2,u3,a4,a5,a6,a7,a8,a9,a10,a11] t:=h2.same 3 u3
 have h4:Box (((((w.setCell ⟨g,0,none⟩ u0).setCell ⟨g,1,none⟩ u1).setCell ⟨g,2,none⟩ u2).setCell ⟨g,3,none⟩ u3).setCell ⟨g,4,none⟩ u4) g #[u0,u1,u2,u3,u4,a5,a6,a7,a8,a9,a10,a11] t:=h3.same 4 u4
 have h5:Box ((((((w.setCell ⟨g,0,none⟩ u0).setCell ⟨g,1,none⟩ u1).setCell ⟨g,2,none⟩ u2).setCell ⟨g,3,none⟩ u3).setCell ⟨g,4,none⟩ u4).setCell ⟨g,5,none⟩ u5) g #[u0,u1,u2,u3,u4,u5,a6,a7,a8,a9,a10,a11] t:=h4.same 5 u5
 have h6:Box (((((((w.setCell ⟨g,0,none⟩ u0).setCell ⟨g,1,none⟩ u1).setCell ⟨g,2,none⟩ u2).setCell ⟨g,3,none⟩ u3).setCell ⟨g,4,none⟩ u4).setCell ⟨g,5,none⟩ u5).setCell ⟨g,6,none⟩ u6) g #[u0,u1,u2,u3,u4,u5,u6,a7,a8,a9,a10,a11] t:=h5.same 6 u6
 have h7:Box ((((((((w.setCell ⟨g,0,none⟩ u0).setCell ⟨g,1,none⟩ u1).setCell ⟨g,2,none⟩ u2).setCell ⟨g,3,none⟩ u3).setCell ⟨g,4,none⟩ u4).setCell ⟨g,5,none⟩ u5).setCell ⟨g,6,none⟩ u6).setCell ⟨g,7,none⟩ u7) g #[u0,u1,u2,u3,u4,u5,u6,u7,a8,a9,a10,a11] t:=h6.same 7 u7
 have h8:Box (((((((((w.setCell ⟨g,0,none⟩ u0).setCell ⟨g,1,none⟩ u1).setCell ⟨g,2,none⟩ u2).setCell ⟨g,3,none⟩ u3).setCell ⟨g,4,none⟩ u4).setCell ⟨g,5,none⟩ u5).setCell ⟨g,6,none⟩ u6).setCell ⟨g,7,none⟩ u7).setCell ⟨g,8,none⟩ u8) g #[u0,u1,u2,u3,u4,u5,u6,u7,u8,a9,a10,a11] t:=h7.same 8 u8
 have h9:Box ((((((((((w.setCell ⟨g,0,none⟩ u0).setCell ⟨g,1,none⟩ u1).setCell ⟨g,2,none⟩ u2).setCell ⟨g,3,none⟩ u3).setCell ⟨g,4,none⟩ u4).setCell ⟨g,5,none⟩ u5).setCell ⟨g,6,none⟩ u6).setCell ⟨g,7,none⟩ u7).setCell ⟨g,8,none⟩ u8).setCell ⟨g,9,none⟩ u9) g #[u0,u1,u2,u3,u4,u5,u6,u7,u8,u9,a10,a11] t:=h8.same 9 u9
 have h10:Box (((((((((((w.setCell ⟨g,0,none⟩ u0).setCell ⟨g,1,none⟩ u1).setCell ⟨g,2,none⟩ u2).setCell ⟨g,3,none⟩ u3).setCell ⟨g,4,none⟩ u4).setCell ⟨g,5,none⟩ u5).setCell ⟨g,6,none⟩ u6).setCell ⟨g,7,none⟩ u7).setCell ⟨g,8,none⟩ u8).setCell ⟨g,9,none⟩ u9).setCell ⟨g,10,none⟩ u10) g #[u0,u1,u2,u3,u4,u5,u6,u7,u8,u9,u10,a11] t:=h9.same 10 u10
 have h11:Box ((((((((((((w.setCell ⟨g,0,none⟩ u0).setCell ⟨g,1,none⟩ u1).setCell ⟨g,2,none⟩ u2).setCell ⟨g,3,none⟩ u3).setCell ⟨g,4,none⟩ u4).setCell ⟨g,5,none⟩ u5).setCell ⟨g,6,none⟩ u6).setCell ⟨g,7,none⟩ u7).setCell ⟨g,8,none⟩ u8).setCell ⟨g,9,none⟩ u9).setCell ⟨g,10,none⟩ u10).setCell ⟨g,11,none⟩ u11) g #[u0,u1,u2,u3,u4,u5,u6,u7,u8,u9,u10,u11] t:=h10.same 11 u11
 exact h11
theorem Box.off12 {w:World} {k g:Nat} {cs:Array Value} {t:TypeId} (h:Box w k cs t) (hne:k ≠ g) (u0 u1 u2 u3 u4 u5 u6 u7 u8 u9 u10 u11:Value):Box ((((((((((((w.setCell ⟨g,0,none⟩ u0).setCell ⟨g,1,none⟩ u1).setCell ⟨g,2,none⟩ u2).setCell ⟨g,3,none⟩ u3).setCell ⟨g,4,none⟩ u4).setCell ⟨g,5,none⟩ u5).setCell ⟨g,6,none⟩ u6).setCell ⟨g,7,none⟩ u7).setCell ⟨g,8,none⟩ u8).setCell ⟨g,9,none⟩ u9).setCell ⟨g,10,none⟩ u10).setCell ⟨g,11,none⟩ u11) k cs t:=by
 have h0:Box (w.setCell ⟨g,0,none⟩ u0) k cs t:=Box.other h hne 0 u0
 have h1:Box ((w.setCell ⟨g,0,none⟩ u0).setCell ⟨g,1,none⟩ u1) k cs t:=Box.other h0 hne 1 u1
 have h2:Box (((w.setCell ⟨g,0,none⟩ u0).setCell ⟨g,1,none⟩ u1).setCell ⟨g,2,none⟩ u2) k cs t:=Box.other h1 hne 2 u2
 have h3:Box ((((w.setCell ⟨g,0,none⟩ u0).setCell ⟨g,1,none⟩ u1).setCell ⟨g,2,none⟩ u2).setCell ⟨g,3,none⟩ u3) k cs t:=Box.other h2 hne 3 u3
 have h4:Box (((((w.setCell ⟨g,0,none⟩ u0).setCell ⟨g,1,none⟩ u1).setCell ⟨g,2,none⟩ u2).setCell ⟨g,3,none⟩ u3).setCell ⟨g,4,none⟩ u4) k cs t:=Box.other h3 hne 4 u4
 have h5:Box ((((((w.setCell ⟨g,0,none⟩ u0).setCell ⟨g,1,none⟩ u1).setCell ⟨g,2,none⟩ u2).setCell ⟨g,3,none⟩ u3).setCell ⟨g,4,none⟩ u4).setCell ⟨g,5,none⟩ u5) k cs t:=Box.other h4 hne 5 u5
 have h6:Box (((((((w.setCell ⟨g,0,none⟩ u0).setCell ⟨g,1,none⟩ u1).setCell ⟨g,2,none⟩ u2).setCell ⟨g,3,none⟩ u3).setCell ⟨g,4,none⟩ u4).setCell ⟨g,5,none⟩ u5).setCell ⟨g,6,none⟩ u6) k cs t:=Box.other h5 hne 6 u6
 have h7:Box ((((((((w.setCell ⟨g,0,none⟩ u0).setCell ⟨g,1,none⟩ u1).setCell ⟨g,2,none⟩ u2).setCell ⟨g,3,none⟩ u3).setCell ⟨g,4,none⟩ u4).setCell ⟨g,5,none⟩ u5).setCell ⟨g,6,none⟩ u6).setCell ⟨g,7,none⟩ u7) k cs t:=Box.other h6 hne 7 u7
 have h8:Box (((((((((w.setCell ⟨g,0,none⟩ u0).setCell ⟨g,1,none⟩ u1).setCell ⟨g,2,none⟩ u2).setCell ⟨g,3,none⟩ u3).setCell ⟨g,4,none⟩ u4).setCell ⟨g,5,none⟩ u5).setCell ⟨g,6,none⟩ u6).setCell ⟨g,7,none⟩ u7).setCell ⟨g,8,none⟩ u8) k cs t:=Box.other h7 hne 8 u8
 have h9:Box ((((((((((w.setCell ⟨g,0,none⟩ u0).setCell ⟨g,1,none⟩ u1).setCell ⟨g,2,none⟩ u2).setCell ⟨g,3,none⟩ u3).setCell ⟨g,4,none⟩ u4).setCell ⟨g,5,none⟩ u5).setCell ⟨g,6,none⟩ u6).setCell ⟨g,7,none⟩ u7).setCell ⟨g,8,none⟩ u8).setCell ⟨g,9,none⟩ u9) k cs t:=Box.other h8 hne 9 u9
 have h10:Box (((((((((((w.setCell ⟨g,0,none⟩ u0).setCell ⟨g,1,none⟩ u1).setCell ⟨g,2,none⟩ u2).setCell ⟨g,3,none⟩ u3).setCell ⟨g,4,none⟩ u4).setCell ⟨g,5,none⟩ u5).setCell ⟨g,6,none⟩ u6).setCell ⟨g,7,none⟩ u7).setCell ⟨g,8,none⟩ u8).setCell ⟨g,9,none⟩ u9).setCell ⟨g,10,none⟩ u10) k cs t:=Box.other h9 hne 10 u10
 have h11:Box ((((((((((((w.setCell ⟨g,0,none⟩ u0).setCell ⟨g,1,none⟩ u1).setCell ⟨g,2,none⟩ u2).setCell ⟨g,3,none⟩ u3).setCell ⟨g,4,none⟩ u4).setCell ⟨g,5,none⟩ u5).setCell ⟨g,6,none⟩ u6).setCell ⟨g,7,none⟩ u7).setCell ⟨g,8,none⟩ u8).setCell ⟨g,9,none⟩ u9).setCell ⟨g,10,none⟩ u10).setCell ⟨g,11,none⟩ u11) k cs t:=Box.other h10 hne 11 u11
 exact h11
theorem str_nil7:strOfNums ([]:List Int) = { data:=#[] }:=rfl
theorem al3p (w:World) (a b c:Obj):Below w.heap.size w (((w.alloc a).alloc b).alloc c):=bl_tr (al2p w a b) (al1p _ c)
theorem al4p (w:World) (a b c d:Obj):Below w.heap.size w ((((w.alloc a).alloc b).alloc c).alloc d):=bl_tr (al3p w a b c) (al1p _ d)
def kindB (k:Int):Bool:=k == 1 || k == 2 || k == 3 || k == 4 || k == 6 || k == 7
def zeroR (x:AttrD):Bool :=
 (x.2.1 == 1 || x.2.2.1 == 0) && ((x.2.1 == 2 || x.2.2.2.1 == 0) && ((x.2.1 == 3 || decide (x.2.2.2.2.1 = [])) && ((x.2.1 == 4 || emptyT x.2.2.2.2.2.1) && ((x.2.1 == 6 || decide (x.2.2.2.2.2.2.1.length = 0)) && (x.2.1 == 7 || decide (x.2.2.2.2.2.2.2.length = 0))))))
def mayA (x:AttrD):Bool:=(if x.2.1 = 4 then mayT x.2.2.2.2.2.1 else kindB x.2.1) && zeroR x
def muchA (x:AttrD):Bool:=muchN x.1 || (decide ((4096:Int) < x.2.2.2.2.1.length) || (muchD x.2.2.2.2.2.1.2.1 || (decide ((4096:Int) < x.2.2.2.2.2.2.1.length) || decide ((4096:Int) < x.2.2.2.2.2.2.2.length))))
def mayNo (n:NodeD):Bool:=!decide (n.1 = []) && n.2.2.2.2.all mayA
def muchNo (n:NodeD):Bool:=muchN n.1 || (muchN n.2.1 || (decide ((64:Int) < n.2.2.1.length) || (n.2.2.1.any muchN || (decide ((64:Int) < n.2.2.2.1.length) || (n.2.2.2.1.any muchN || (decide ((64:Int) < n.2.2.2.2.length) || n.2.2.2.2.any muchA))))))
def muchI (x:InitD):Bool:=muchN x.1 || muchD x.2.2.1
def muchV (v:ValD):Bool:=muchN v.1 || muchD v.2.2
def mayM (m:ModelD):Bool:=m.1 == 17 && (m.2.2.1.all mayNo && (m.2.2.2.1.all (fun x => mayT x.2) && (m.2.2.2.2.1.all mayV && m.2.2.2.2.2.all mayV)))
def muchM (m:ModelD):Bool:=muchN m.2.1 || (decide ((1024:Int) < m.2.2.1.length) || (m.2.2.1.any muchNo || (decide ((1024:Int) < m.2.2.2.1.length) || (m.2.2.2.1.any muchI || (decide ((64:Int) < m.2.2.2.2.1.length) || (m.2.2.2.2.1.any muchV || (decide ((64:Int) < m.2.2.2.2.2.length) || m.2.2.2.2.2.any muchV)))))))
theorem fAll_1:∀ l:List F3,(fAll l).1 = l.any (·.1)
 | [] => rfl
 | x :: r => by rw [fAll_cons,List.any_cons,← fAll_1 r]; rfl
theorem fAll_3:∀ l:List F3,(fAll l).2.2 = l.any (·.2.2)
 | [] => rfl
 | x :: r => by rw [fAll_cons,List.any_cons,← fAll_3 r]; rfl
theorem muchN_W (s:Str):(longW s).2.2 = muchN s:=by
 unfold longW muchN big3
 simp only
 rw [decide_eq_decide]; omega
theorem mayV_W (v:ValD):mayV v = !(valW v).1:=by
 unfold valW mayV
 rw [fAll_1]
 simp only [List.any_cons,List.any_nil,longW,big3,bad3,dimsW,f3,Bool.or_false,Bool.false_or,Bool.not_or,Bool.not_not]
 rfl
theorem muchV_W (v:ValD):muchV v = (valW v).2.2:=by
 unfold valW muchV
 rw [fAll_3]
 simp only [List.any_cons,List.any_nil,muchN_W,big3,bad3,dimsW,f3,Bool.or_false,Bool.false_or]
 rfl
theorem count_nil7:countV [] = (1,0):=by decide
theorem nil_of0 {α:Type} {l:List α} (h:l.length = 0):l = []:=List.eq_nil_of_length_eq_zero h
theorem emptyT_dims {t:TenD} (h:emptyT t = true):t.2.1 = []:=by
 unfold emptyT at h
 simp only [Bool.and_eq_true,beq_iff_eq] at h
 exact nil_of0 (by omega)
theorem tensW_3 {t:TenD} (h:mayT t = true):(tensW t).2.2 = muchD t.2.1:=by
 unfold mayT at h
 have hk:knownB t.1 = true:=by revert h; cases knownB t.1 <;> simp
 unfold tensW
 rw [if_neg (by rw [hk]; decide)]
 simp only [f3,dimsW,bad3,big3,Bool.or_false,Bool.false_or]
 rfl
theorem mayA_W (x:AttrD):mayA x = !(attrW x).1:=by
 obtain ⟨nm,k,f,i,s,T,fl,is⟩:=x
 unfold attrW mayA zeroR
 rw [fAll_1]
 simp only [List.any_cons,List.any_nil,longW,big3,bad3,Bool.or_false,Bool.false_or]
 have e1:decide (s ≠ []) = !decide (s = []):=by simp
 have e2:decide (0 < fl.length) = !decide (fl.length = 0):=by rw [← decide_not,decide_eq_decide]; omega
 have e3:decide (0 < is.length) = !decide (is.length = 0):=by rw [← decide_not,decide_eq_decide]; omega
 rw [e1,e2,e3]
 generalize decide (s = []) = S
 generalize decide (fl.length = 0) = FL
 generalize decide (is.length = 0) = IS
 generalize emptyT T = ET
 have hm:=mayT_W T
 generalize mayT T = MT at hm
 generalize (tensW T) = TW at hm
 obtain ⟨TW,TW2,TW3⟩:=TW
 simp only at hm
 have hm2:TW = !MT:=by rw [hm,Bool.not_not]
 subst hm2
 clear hm
 have f1:(f != 0) = !(f == 0):=rfl
 have i1:(i != 0) = !(i == 0):=rfl
 rw [f1,i1]
 generalize (f == 0) = F0
 generalize (i == 0) = I0
 unfold kindB
 by_cases h1:k = 1
 ·subst h1; cases F0 <;> cases I0 <;> cases S <;> cases FL <;> cases IS <;> cases ET <;> rfl
 ·by_cases h2:k = 2
  ·subst h2; cases F0 <;> cases I0 <;> cases S <;> cases FL <;> cases IS <;> cases ET <;> rfl
  ·by_cases h3:k = 3
   ·subst h3; cases F0 <;> cases I0 <;> cases S <;> cases FL <;> cases IS <;> cases ET <;> rfl
   ·by_cases h4:k = 4
    ·subst h4; cases F0 <;> cases I0 <;> cases S <;> cases FL <;> cases IS <;> cases ET <;> cases MT <;> rfl
    ·by_cases h6:k = 6
     ·subst h6; cases F0 <;> cases I0 <;> cases S <;> cases FL <;> cases IS <;> cases ET <;> rfl
     ·by_cases h7:k = 7
      ·subst h7; cases F0 <;> cases I0 <;> cases S <;> cases FL <;> cases IS <;> cases ET <;> rfl
      ·rw [if_neg h4,if_neg (by omega),if_neg h4]
       simp [h1,h2,h3,h4,h6,h7]
theorem muchA_W {x:AttrD} (h:mayA x = true):muchA x = (attrW x).2.2:=by
 obtain ⟨nm,k,f,i,s,T,fl,is⟩:=x
 have hk:(if k = 1 ∨ k = 2 ∨ k = 3 ∨ k = 6 ∨ k = 7 then no3 else if k = 4 then tensW T else bad3 true).2.2 = muchD T.2.1:=by
  unfold mayA at h
  simp only [Bool.and_eq_true] at h
  obtain ⟨h1,h2⟩:=h
  by_cases h4:k = 4
  ·subst h4
   rw [if_pos rfl] at h1
   rw [if_neg (by decide),if_pos rfl]
   exact tensW_3 h1
  ·rw [if_neg h4] at h1 ⊢
   unfold zeroR at h2
   simp only [Bool.and_eq_true] at h2
   have h3:emptyT T = true:=by
    have:=h2.2.2.2.1
    simpa [h4] using this
   rw [show muchD T.2.1 = false by rw [emptyT_dims h3]; unfold muchD; rw [count_nil7]; rfl]
   split
   ·rfl
   ·rfl
 unfold attrW muchA
 rw [fAll_3]
 simp only [List.any_cons,List.any_nil,muchN_W,big3,bad3,Bool.or_false,Bool.false_or]
 rw [show (true,false,false) = bad3 true from rfl,hk]
 have e:decide (4096 < s.length ∨ 4096 < fl.length ∨ 4096 < is.length) = (decide ((4096:Int) < s.length) || (decide ((4096:Int) < fl.length) || decide ((4096:Int) < is.length))):=by
  rw [Bool.eq_iff_iff]; simp; omega
 rw [e]
 generalize decide ((4096:Int) < s.length) = a
 generalize decide ((4096:Int) < fl.length) = b
 generalize decide ((4096:Int) < is.length) = c
 generalize muchD T.2.1 = d
 generalize muchN nm = g
 cases a <;> cases b <;> cases c <;> cases d <;> cases g <;> rfl
theorem any_map7 {α β:Type} (f:α → β) (P:β → Bool) (l:List α):(l.map f).any P = l.any (fun x => P (f x)):=by
 induction l with
 | nil => rfl
 | cons a r ih => rw [List.map_cons,List.any_cons,List.any_cons,ih]
theorem any_congr7 {α:Type} {P Q:α → Bool} {l:List α} (h:∀ x ∈ l,P x = Q x):l.any P = l.any Q:=by
 induction l with
 | nil => rfl
 | cons a r ih => rw [List.any_cons,List.any_cons,h a (by simp),ih (fun x hx => h x (by simp [hx]))]
theorem all_not7 {α:Type} (P:α → Bool) (l:List α):l.all P = !l.any (fun x => !P x):=by
 induction l with
 | nil => rfl
 | cons a r ih => rw [List.all_cons,List.any_cons,ih,Bool.not_or,Bool.not_not]
theorem any_false7 {α:Type} (l:List α):(l.any fun _ => false) = false:=by
 induction l with
 | nil => rfl
 | cons a r ih => rw [List.any_cons,ih]; rfl
theorem mayNo_W (n:NodeD):mayNo n = !(nodeW n).1:=by
 unfold nodeW mayNo
 rw [fAll_1]
 simp only [List.any_append,List.any_cons,List.any_nil,any_map7,longW,big3,bad3,Bool.or_false,Bool.false_or,any_false7]
 rw [all_not7,Bool.not_or,any_congr7 (fun x _ => show (!mayA x) = (attrW x).1 by rw [mayA_W,Bool.not_not])]
theorem muchNo_W {n:NodeD} (h:mayNo n = true):muchNo n = (nodeW n).2.2:=by
 unfold mayNo at h
 simp only [Bool.and_eq_true,List.all_eq_true] at h
 unfold nodeW muchNo
 rw [fAll_3]
 simp only [List.any_append,List.any_cons,List.any_nil,any_map7,muchN_W,big3,bad3,Bool.or_false,Bool.false_or]
 rw [any_congr7 (fun x hx => muchA_W (h.2 x hx))]
 have e:decide (64 < n.2.2.1.length ∨ 64 < n.2.2.2.1.length ∨ 64 < n.2.2.2.2.length) = (decide ((64:Int) < n.2.2.1.length) || (decide ((64:Int) < n.2.2.2.1.length) || decide ((64:Int) < n.2.2.2.2.length))):=by
  rw [Bool.eq_iff_iff]; simp; omega
 rw [e]
 generalize decide ((64:Int) < n.2.2.1.length) = a
 generalize decide ((64:Int) < n.2.2.2.1.length) = b
 generalize decide ((64:Int) < n.2.2.2.2.length) = c
 generalize muchN n.1 = d
 generalize muchN n.2.1 = e1
 generalize n.2.2.1.any muchN = f
 generalize n.2.2.2.1.any muchN = g
 generalize (n.2.2.2.2.any fun x => (attrW x).2.2) = k
 cases a <;> cases b <;> cases c <;> cases d <;> cases e1 <;> cases f <;> cases g <;> cases k <;> rfl
theorem mayM_W (m:ModelD):mayM m = !(modelW m).1:=by
 unfold modelW mayM valuesW
 rw [fAll_1]
 simp only [List.any_append,List.any_cons,List.any_nil,any_map7,longW,big3,bad3,f3,Bool.or_false,Bool.false_or,fAll_1]
 rw [all_not7,all_not7,all_not7,all_not7,any_congr7 (fun x _ => show (!mayNo x) = (nodeW x).1 by rw [mayNo_W,Bool.not_not]),any_congr7 (fun (x:InitD) _ => show (!mayT x.2) = (tensW x.2).1 by rw [mayT_W,Bool.not_not]),any_congr7 (fun x _ => show (!mayV x) = (valW x).1 by rw [mayV_W,Bool.not_not]),any_congr7 (fun x _ => show (!mayV x) = (valW x).1 by rw [mayV_W,Bool.not_not])]
 have e:(m.1 != 17) = !(m.1 == 17):=rfl
 rw [e]
 generalize (m.1 == 17) = a
 generalize (m.2.2.1.any fun x => (nodeW x).1) = b
 generalize (m.2.2.2.1.any fun x => (tensW x.2).1) = c
 generalize (m.2.2.2.2.1.any fun x => (valW x).1) = d
 generalize (m.2.2.2.2.2.any fun x => (valW x).1) = g
 cases a <;> cases b <;> cases c <;> cases d <;> cases g <;> rfl
theorem muchM_W {m:ModelD} (h:mayM m = true):muchM m = (modelW m).2.2:=by
 unfold mayM at h
 simp only [Bool.and_eq_true,List.all_eq_true] at h
 obtain ⟨_,h1,h2,_,_⟩:=h
 unfold modelW muchM valuesW
 rw [fAll_3]
 simp only [List.any_append,List.any_cons,List.any_nil,any_map7,muchN_W,big3,bad3,f3,Bool.or_false,Bool.false_or,fAll_3]
 rw [any_congr7 (fun x hx => muchNo_W (h1 x hx)),any_congr7 (fun (x:InitD) hx => show muchI x = (muchN x.1 || (tensW x.2).2.2) by rw [tensW_3 (h2 x hx)]; rfl),any_congr7 (fun x _ => muchV_W x),any_congr7 (fun x _ => muchV_W x)]
 have e:decide (1024 < m.2.2.1.length ∨ 1024 < m.2.2.2.1.length) = (decide ((1024:Int) < m.2.2.1.length) || decide ((1024:Int) < m.2.2.2.1.length)):=by
  rw [Bool.eq_iff_iff]; simp; omega
 have e1:decide (64 < m.2.2.2.2.1.length) = decide ((64:Int) < m.2.2.2.2.1.length):=by rw [decide_eq_decide]; omega
 have e2:decide (64 < m.2.2.2.2.2.length) = decide ((64:Int) < m.2.2.2.2.2.length):=by rw [decide_eq_decide]; omega
 rw [e,e1,e2]
 generalize decide ((1024:Int) < m.2.2.1.length) = a
 generalize decide ((1024:Int) < m.2.2.2.1.length) = b
 generalize decide ((64:Int) < m.2.2.2.2.1.length) = c
 generalize decide ((64:Int) < m.2.2.2.2.2.length) = d
 generalize muchN m.2.1 = g
 generalize (m.2.2.1.any fun x => (nodeW x).2.2) = k
 generalize (m.2.2.2.1.any fun x => (muchN x.1 || (tensW x.2).2.2)) = n
 generalize (m.2.2.2.2.1.any fun x => (valW x).2.2) = p
 generalize (m.2.2.2.2.2.any fun x => (valW x).2.2) = q
 cases a <;> cases b <;> cases c <;> cases d <;> cases g <;> cases k <;> cases n <;> cases p <;> cases q <;> rfl
theorem check_code (m:ModelD):(if mayM m = false then 1 else if muchM m = true then 8 else 0) = checkM m:=by
 unfold checkM
 have h:=mayM_W m
 by_cases hm:mayM m = true
 ·have h1:(modelW m).1 = false:=by rw [hm] at h; revert h; cases (modelW m).1 <;> simp
  rw [muchM_W hm,h1,hm]
  rfl
 ·have h0:mayM m = false:=by simpa using hm
  have h1:(modelW m).1 = true:=by rw [h0] at h; revert h; cases (modelW m).1 <;> simp
  rw [h0,h1]
  rfl
def restA (a:AtA):AtA:=if a.kd = 1 then { a with f:=0 } else if a.kd = 2 then { a with i:=0 } else if a.kd = 3 then { a with s:=[] } else if a.kd = 4 then { a with T:=noTen,A:=noTA } else if a.kd = 6 then { a with fl:=[],qf:=none,cf:=0 } else if a.kd = 7 then { a with is:=[],qi:=none,ci:=0 } else a
def keptA (a:AtA):AtA:=if a.kd = 1 then { noAtA with nm:=a.nm,kd:=a.kd,f:=a.f } else if a.kd = 2 then { noAtA with nm:=a.nm,kd:=a.kd,i:=a.i } else if a.kd = 3 then { noAtA with nm:=a.nm,kd:=a.kd,s:=a.s } else if a.kd = 4 then { noAtA with nm:=a.nm,kd:=a.kd,T:=a.T,A:=a.A } else if a.kd = 6 then { noAtA with nm:=a.nm,kd:=a.kd,fl:=a.fl,qf:=a.qf,cf:=a.cf } else if a.kd = 7 then { noAtA with nm:=a.nm,kd:=a.kd,is:=a.is,qi:=a.qi,ci:=a.ci } else noAtA
def noneT (T:Ten):Bool:=T.1 == 0 && ((T.2.1.length:Int) == 0 && elemsN T == 0)
def zeroA (a:AtA):Bool:=a.f == 0 && (a.i == 0 && (decide (a.s = []) && (noneT a.T && ((a.fl.length:Int) == 0 && (a.is.length:Int) == 0))))
theorem noneT_E (T:Ten):noneT T = emptyT T:=by
 unfold noneT emptyT elemsN
 rw [Bool.eq_iff_iff]
 simp only [Bool.and_eq_true,beq_iff_eq]
 omega
theorem emptyT_no:emptyT noTen = true:=by decide
theorem zero_rest (a:AtA):zeroA (restA a) = zeroR a.d:=by
 obtain ⟨nm,k,f,i,s,T,A,fl,qf,cf,is,qi,ci⟩:=a
 unfold zeroA zeroR restA AtA.d
 simp only [noneT_E]
 have e2:((fl.length:Int) == 0) = decide (fl.length = 0):=by rw [Bool.eq_iff_iff]; simp
 have e3:((is.length:Int) == 0) = decide (is.length = 0):=by rw [Bool.eq_iff_iff]; simp
 by_cases h1:k = 1
 ·subst h1; simp [e2,e3]
 ·by_cases h2:k = 2
  ·subst h2; simp [e2,e3]
  ·by_cases h3:k = 3
   ·subst h3; simp [e2,e3]
   ·by_cases h4:k = 4
    ·subst h4; simp [e2,e3,emptyT_no]
    ·by_cases h6:k = 6
     ·subst h6; simp [e3]
     ·by_cases h7:k = 7
      ·subst h7; simp [e2]
      ·simp only [if_neg h1,if_neg h2,if_neg h3,if_neg h4,if_neg h6,if_neg h7,e2,e3,show (k == 1) = false from by simp [h1],show (k == 2) = false from by simp [h2],show (k == 3) = false from by simp [h3],show (k == 4) = false from by simp [h4],show (k == 6) = false from by simp [h6],show (k == 7) = false from by simp [h7],Bool.false_or]
theorem czero_1 (a:AtA) (w:World) (h:TenSm a.T) (h0:¬ a.T.1 = 0):Calls Tryz.prog 201 #[.agg (atCells a).toArray] w fun e w' => e = .returned (.bool (zeroA a)) ∧ Below w.heap.size w w':=by
 obtain ⟨nm,kd,f,i,s,⟨ty,ds,fs,is,bs⟩,⟨pd,cd,pf,cf,pi,ci,pb,cb⟩,fl,qf,cf',li,qi,ci'⟩:=a
 have CE:=hide (fun v => celems_any (ty,ds,fs,is,bs) ⟨pd,cd,pf,cf,pi,ci,pb,cb⟩ v h)
 obtain ⟨R,hR⟩:∃ R,zeroA ⟨nm,kd,f,i,s,(ty,ds,fs,is,bs),⟨pd,cd,pf,cf,pi,ci,pb,cb⟩,fl,qf,cf',li,qi,ci'⟩ = R:=⟨_,rfl⟩
 have HN:Hid (noneT (ty,ds,fs,is,bs) = (ty == 0 && ((ds.length:Int) == 0 && elemsN (ty,ds,fs,is,bs) == 0))):=hide rfl
 have HR:Hid (R = (f == 0 && (i == 0 && (decide (s = []) && (noneT (ty,ds,fs,is,bs) && ((fl.length:Int) == 0 && (li.length:Int) == 0)))))):=hide (by rw [← hR]; rfl)
 rw [hR]
 rw [← str_isE] at HR
 clear hR h
 generalize noneT (ty,ds,fs,is,bs) = NT at HN HR
 generalize elemsN (ty,ds,fs,is,bs) = EN at CE HN
 unfold tenV tenCells at CE
 unfold atCells tenCells strV
 simp only [List.cons_append,List.nil_append]
 have HB:=hide (fun o => al1p w o)
 simp only at h0
 have t0:(ty == 0) = false:=by simp [h0]
 rw [t0,Bool.false_and] at HN
 replace HN:=uh HN
 subst HN
 have HE:Hid (false = R):=hide (by rw [uh HR]; simp only [Bool.and_false,Bool.false_and])
 clear CE h0 HR
 go_enter Tryz.func201,Tryz.ntmps201
 go_wp2_with fail
 all_goals (go_ret; exact ⟨ret_bool (uh HE),uh HB _⟩)
theorem czero_2 (a:AtA) (w:World) (h:TenSm a.T) (h0:a.T.1 = 0) (h1:¬ a.T.2.1.length = 0):Calls Tryz.prog 201 #[.agg (atCells a).toArray] w fun e w' => e = .returned (.bool (zeroA a)) ∧ Below w.heap.size w w':=by
 obtain ⟨nm,kd,f,i,s,⟨ty,ds,fs,is,bs⟩,⟨pd,cd,pf,cf,pi,ci,pb,cb⟩,fl,qf,cf',li,qi,ci'⟩:=a
 have CE:=hide (fun v => celems_any (ty,ds,fs,is,bs) ⟨pd,cd,pf,cf,pi,ci,pb,cb⟩ v h)
 obtain ⟨R,hR⟩:∃ R,zeroA ⟨nm,kd,f,i,s,(ty,ds,fs,is,bs),⟨pd,cd,pf,cf,pi,ci,pb,cb⟩,fl,qf,cf',li,qi,ci'⟩ = R:=⟨_,rfl⟩
 have HN:Hid (noneT (ty,ds,fs,is,bs) = (ty == 0 && ((ds.length:Int) == 0 && elemsN (ty,ds,fs,is,bs) == 0))):=hide rfl
 have HR:Hid (R = (f == 0 && (i == 0 && (decide (s = []) && (noneT (ty,ds,fs,is,bs) && ((fl.length:Int) == 0 && (li.length:Int) == 0)))))):=hide (by rw [← hR]; rfl)
 rw [hR]
 rw [← str_isE] at HR
 clear hR h
 generalize noneT (ty,ds,fs,is,bs) = NT at HN HR
 generalize elemsN (ty,ds,fs,is,bs) = EN at CE HN
 unfold tenV tenCells at CE
 unfold atCells tenCells strV
 simp only [List.cons_append,List.nil_append]
 have HB:=hide (fun o => al1p w o)
 simp only at h0 h1
 have t0:(ty == 0) = true:=by simp [h0]
 have t1:((ds.length:Int) == 0) = false:=by rw [beq_eq_false_iff_ne]; omega
 rw [t0,t1,Bool.false_and,Bool.and_false] at HN
 replace HN:=uh HN
 subst HN
 have HE:Hid (false = R):=hide (by rw [uh HR]; simp only [Bool.and_false,Bool.false_and])
 clear CE h1 HR
 go_enter Tryz.func201,Tryz.ntmps201
 go_wp2_with fail
 all_goals (go_ret; exact ⟨ret_bool (uh HE),uh HB _⟩)
theorem czero_3 (a:AtA) (w:World) (h:TenSm a.T) (h0:a.T.1 = 0) (h1:a.T.2.1.length = 0):Calls Tryz.prog 201 #[.agg (atCells a).toArray] w fun e w' => e = .returned (.bool (zeroA a)) ∧ Below w.heap.size w w':=by
 obtain ⟨nm,kd,f,i,s,⟨ty,ds,fs,is,bs⟩,⟨pd,cd,pf,cf,pi,ci,pb,cb⟩,fl,qf,cf',li,qi,ci'⟩:=a
 have CE:=hide (fun v => celems_any (ty,ds,fs,is,bs) ⟨pd,cd,pf,cf,pi,ci,pb,cb⟩ v h)
 obtain ⟨R,hR⟩:∃ R,zeroA ⟨nm,kd,f,i,s,(ty,ds,fs,is,bs),⟨pd,cd,pf,cf,pi,ci,pb,cb⟩,fl,qf,cf',li,qi,ci'⟩ = R:=⟨_,rfl⟩
 have HN:Hid (noneT (ty,ds,fs,is,bs) = (ty == 0 && ((ds.length:Int) == 0 && elemsN (ty,ds,fs,is,bs) == 0))):=hide rfl
 have HR:Hid (R = (f == 0 && (i == 0 && (decide (s = []) && (noneT (ty,ds,fs,is,bs) && ((fl.length:Int) == 0 && (li.length:Int) == 0)))))):=hide (by rw [← hR]; rfl)
 rw [hR]
 rw [← str_isE] at HR
 clear hR h
 generalize noneT (ty,ds,fs,is,bs) = NT at HN HR
 generalize elemsN (ty,ds,fs,is,bs) = EN at CE HN
 unfold tenV tenCells at CE
 unfold atCells tenCells strV
 simp only [List.cons_append,List.nil_append]
 have HB:=hide (fun o => al1p w o)
 simp only at h0 h1
 have hds:ds = []:=List.eq_nil_of_length_eq_zero h1
 subst hds
 subst h0
 rw [show ((0:Int) == 0) = true from rfl,Bool.true_and,show ((([]:List Int).length:Int) == 0) = true from rfl,Bool.true_and] at HN
 replace HN:=uh HN
 subst HN
 clear h1
 simp only [List.length_nil] at CE ⊢
 go_enter Tryz.func201,Tryz.ntmps201
 go_wp2_with fail
 refine (uh CE _).mono ?_
 rintro e v ⟨rfl,hv⟩
 have B1:=hide (bl_tr (al1p w (Obj.cells #[.string (strOfNums nm),.int .i64 kd,.int .u32 f,.int .i64 i,.string (strOfNums s),.int .i64 0,.slice pd 0 cd,.slice pf fs.length cf,.slice pi is.length ci,.slice pb bs.length cb,.slice qf fl.length cf',.slice qi li.length ci'] 86)) hv)
 have x1:=(Box.below (Box.new w #[.string (strOfNums nm),.int .i64 kd,.int .u32 f,.int .i64 i,.string (strOfNums s),.int .i64 0,.slice pd 0 cd,.slice pf fs.length cf,.slice pi is.length ci,.slice pb bs.length cb,.slice qf fl.length cf',.slice qi li.length ci'] 86) hv).cell
 clear hv CE
 have HF:Hid (f ≠ 0 → false = R):=hide (fun h => by rw [uh HR,show (f == 0) = false by simp [h]]; rfl)
 by_cases cf0:f = 0
 rotate_left
 ·have HE:=hide (uh HF cf0)
  have tf:(f == 0) = false:=by simp [cf0]
  clear HF HR
  go_wp2_with fail
  all_goals (go_ret; exact ⟨ret_bool (uh HE),uh B1⟩)
 subst cf0
 by_cases ci0:i = 0
 rotate_left
 ·have ti:(i == 0) = false:=by simp [ci0]
  have HE:Hid (false = R):=hide (by rw [uh HR,ti]; rfl)
  clear HF HR
  go_wp2_with fail
  all_goals (go_ret; exact ⟨ret_bool (uh HE),uh B1⟩)
 subst ci0
 obtain ⟨S,hS⟩:∃ S,(strOfNums s).toList.isEmpty = S:=⟨_,rfl⟩
 rw [hS] at HR
 cases S
 ·have HE:Hid (false = R):=hide (by rw [uh HR]; rfl)
  clear HF HR
  go_wp2_with fail
  all_goals (go_ret; exact ⟨ret_bool (uh HE),uh B1⟩)
 by_cases cn0:EN = 0
 rotate_left
 ·have tn:(EN == 0) = false:=by simp [cn0]
  have HE:Hid (false = R):=hide (by rw [uh HR,tn]; rfl)
  clear HF HR
  go_wp2_with fail
  all_goals (go_ret; exact ⟨ret_bool (uh HE),uh B1⟩)
 subst cn0
 by_cases cl0:(fl.length:Int) = 0
 rotate_left
 ·have tl:((fl.length:Int) == 0) = false:=by rw [beq_eq_false_iff_ne]; exact cl0
  have HE:Hid (false = R):=hide (by rw [uh HR,tl]; rfl)
  clear HF HR
  go_wp2_with fail
  all_goals (go_ret; exact ⟨ret_bool (uh HE),uh B1⟩)
 have tl:((fl.length:Int) == 0) = true:=by rw [beq_iff_eq]; exact cl0
 have HE:Hid (((li.length:Int) == 0) = R):=hide (by rw [uh HR,tl]; rfl)
 clear HF HR
 go_wp2_with fail
 go_ret
 exact ⟨ret_bool (uh HE),uh B1⟩
end Go.Proofs.YtmdlaahdgjegcaaGreat
