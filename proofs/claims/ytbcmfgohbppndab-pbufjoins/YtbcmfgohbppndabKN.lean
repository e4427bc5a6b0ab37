import Derived.Test.YtbcmfgohbppndabKM

/-
  Layer 6: the statements' own looks at fields.
-/
namespace Go.Proofs.Ytbcmfgohbppndab
open Go.RowKit
set_option linter.unusedVariables false

/-- 'append(own, f)' as one step of a region that draws. -/
theorem step_append_fld {P : Program} {ops : Array Oper} {o : Oper} {a : Act} {w : World} {K : Act → World → Prop} {Q : Exit → Act → World → Prop} {E : Prop} (hg : o.guard = none) (s x : Operand) (t : TypeId)
    (hop : o.op = Op.call { callee := Callee.builtin Builtin.append, args := #[s, x], argTypes := #[t, t] }) (w0 : World) (e : TypeId) (i : TypeInfo) (z : Value) (bytes : Nat)
    (h1 : P.underlying t = some (.slice e)) (h2 : P.info? e = some i) (h3 : i.zero = some z) (h4 : i.size = 4) (h5 : i.bytes = bytes) (h6 : z.cells.size = 4)
    (v : Value) (l : List FA) (hs : a.eval s = v) (hown : OwnF e w0 w v l) (f : FA) (ad : Addr) (c : Nat) (hx : a.eval x = .slice (some ad) 1 c) (hc : ∀ j u, (faCells f)[j]? = some u → w.cell? (ad.add j) = some u)
    (b1 : l.length + 1 ≤ maxLen) (b2 : (l.length + 1) * bytes ≤ 140737488355328) (hK : ∀ v' w', OwnF e w0 w' v' (l ++ [f]) → K (a.put o.dst v') w') :
    if Region.wanted o (yielded ops a.tmps) = true then Oper.wp P o a w K Q else E := by
  have hw : Region.wanted o (yielded ops a.tmps) = true := by simp [Region.wanted, hg]
  rw [if_pos hw]
  obtain ⟨v', w', hrun, r1, r2, _⟩ := run_append_own (P := P) w w0.heap.size t o.type e i z 4 bytes h1 h2 h3 h4 h5 h6 (by decide) v l.length (l.flatMap faCells) hown.1 ad 1 c (faCells f) (by rw [fa_len]) hc (fa_one f) b1 b2 hown.2.size
  unfold Oper.wp
  simp [execOp, hop, resolve, invoke, builtin, hs, hx, hrun, Result.andThen]
  refine hK v' w' ⟨?_, hown.2.grown r2 hown.2.size (fun k hk => (hown.1.lt k hk).1)⟩
  have e1 : (l ++ [f]).length = l.length + 1 := by simp
  have e2 : (l ++ [f]).flatMap faCells = l.flatMap faCells ++ faCells f := by simp
  rw [e1, e2]; exact r1
theorem fa_allocD (w : World) (f : FA) (t : TypeId) : ∀ j u, (faCells f)[j]? = some u → (w.alloc (.cells #[.int .i64 f.n, .int .i64 f.wr, .int .u64 f.x, .slice f.q f.d.length f.c] t)).drew.cell? ((⟨w.heap.size, 0, none⟩ : Addr).add j) = some u := fa_alloc w f t
end Go.Proofs.Ytbcmfgohbppndab
