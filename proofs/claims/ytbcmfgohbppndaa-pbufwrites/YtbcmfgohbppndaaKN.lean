import Derived.Test.YtbcmfgohbppndaaKM

/-
  Layer 6: the statements' own looks at fields.
-/
namespace Go.Proofs.Ytbcmfgohbppndaa
open Go.RowKit
set_option linter.unusedVariables false

/-- 'append(own, f)' as one step of a region that draws. -/
theorem step_append_fld {P : Program} {ops : Array Oper} {o : Oper} {a : Act} {w : World} {K : Act → World → Prop} {Q : Exit → Act → World → Prop} {E : Prop} (hg : o.guard = none) (s x : Operand) (t : TypeId)
    (hop : o.op = Op.call { callee := Callee.builtin Builtin.append, args := #[s, x], argTypes := #[t, t] }) (w0 : World) (e : TypeId) (i : TypeInfo) (z : Value) (bytes : Nat)
    (h1 : P.underlying t = some (.slice e)) (h2 : P.info? e = some i) (h3 : i.zero = some z) (h4 : i.size = 4) (h5 : i.bytes = bytes) (h6 : z.cells.size = 4)
    (v : Value) (l : List FA) (hs : a.eval s = v) (hown : OwnF e w0 w v l) (f : FA) (ad : Addr) (c : Nat) (hx : a.eval x = .slice (some ad) 1 c) (hc : ∀ j u, (faCells f)[j]? = some u → w.cell? (ad.add j) = some u)
    (b1 : l.length + 1 ≤ maxLen) (b2 : (l.length + 1) * bytes ≤ 140737488355328) (hK : ∀ v' w', OwnF e w0 w' v' (l ++ [f]) → K (a.put o.dst v') w') :
    if Region.wanted o (yielded ops a.tmps) = true then Oper.wp P o a w K Q else E := by
  have hw : Region.wanted o (yielded ops a.tmps) = true := by simp [Region.wanted, hg]
  rw [if_pos hw]
  obtain ⟨v', w', hrun, r1, r2, _⟩ := run_append_own (P := P) w w0.heap.size t o.type e i z 4 bytes h1 h2 h3 h4 h5 h6 (by decide) v l.length (l.flatMap faCells) hown.1 ad 1 c (faCells f) (by rw [fa_len]) hc (fa_one f) b1 b2 hown.2.size
  unfold Oper.wp
  simp [execOp, hop, resolve, invoke, builtin, hs, hx, hrun, Result.andThen]
  refine hK v' w' ⟨?_, hown.2.grown r2 hown.2.size (fun k hk => (hown.1.lt k hk).1)⟩
  have e1 : (l ++ [f]).length = l.length + 1 := by simp
  have e2 : (l ++ [f]).flatMap faCells = l.flatMap faCells ++ faCells f := by simp
  rw [e1, e2]; exact r1
theorem fa_allocD (w : World) (f : FA) (t : TypeId) : ∀ j u, (faCells f)[j]? = some u → (w.alloc (.cells #[.int .i64 f.n, .int .i64 f.wr, .int .u64 f.x, .slice f.q f.d.length f.c] t)).drew.cell? ((⟨w.heap.size, 0, none⟩ : Addr).add j) = some u := fa_alloc w f t
set_option maxRecDepth 100000 in
set_option maxHeartbeats 2000000 in
theorem plain6_any (p : Option Addr) (c : Nat) (l : List FA) (w : World) (h : Fls w p c l) (hs : l.length * 48 ≤ 140737488355328) :
    Calls Try.prog 22 #[.slice p l.length c] w fun e w' => ∃ v, e = .returned v ∧ OwnF 50 w w' v l := by
  obtain ⟨i1, hi1, y1, z1, b1⟩ := info_parts Try.infoRF
  have A1 := hide h.1
  have nl := h.1.len
  clear h
  go_enter Try.func22, Try.ntmps22
  go_wp2_with fail
  go_loopw [3, 4] (fun v iv wr => ∃ n : Nat, iv = .int .i64 n ∧ n ≤ l.length ∧ Hid (OwnF 50 w wr v (l.take n))) (fun _ iv _ => l.length - (intOf iv).toNat)
  case atStart => exact ⟨0, rfl, by omega, hide (OwnF.nil _ _ _ (Below.refl _ _))⟩
  case round =>
    obtain ⟨n, rfl, hn, O⟩ := hrel
    by_cases hlt : n < l.length
    · have hi : (n : Int) < (l.length : Int) := by omega
      obtain ⟨b, o, hq, hb, _⟩ := ((unhide A1).below (unhide O).2).at hlt
      have KA : Hid (∀ v, Below w.heap.size w v → v.cell? ⟨b, o + n * 4, none⟩ = some (.int .i64 (l.getD n noFA).n) ∧ v.cell? ⟨b, o + n * 4 + 1, none⟩ = some (.int .i64 (l.getD n noFA).wr) ∧ v.cell? ⟨b, o + n * 4 + 2, none⟩ = some (.int .u64 (l.getD n noFA).x) ∧ v.cell? ⟨b, o + n * 4 + 3, none⟩ = some (.slice (l.getD n noFA).q (l.getD n noFA).d.length (l.getD n noFA).c)) := hide (fun v hv => by
        obtain ⟨b', o', e', _, g⟩ := ((unhide A1).below hv).at hlt
        rw [hq] at e'
        simp only [Option.some.injEq, Addr.mk.injEq] at e'
        obtain ⟨rfl, rfl, _⟩ := e'
        exact g)
      have HT := hide (take_addF l n hlt)
      have htl : (l.take n).length = n := by rw [List.length_take]; omega
      have HTL := hide htl
      clear htl
      generalize l.getD n noFA = a at KA HT
      subst hq
      obtain ⟨k0, k1, k2, k3⟩ := unhide KA _ (unhide O).2
      have DB1 := hide (unhide KA _ (bl_tr (unhide O).2 (bdrewp wr)))
      have DB2 := hide (fun ob => unhide KA _ (bl_tr (bl_tr (unhide O).2 (al1p wr ob)) (bdrewp _)))
      go_wp2_with fail
      go_region_held3 (fun v => v.cell? ⟨b, o + n * 4, none⟩ = some (.int .i64 a.n) ∧ v.cell? ⟨b, o + n * 4 + 1, none⟩ = some (.int .i64 a.wr) ∧ v.cell? ⟨b, o + n * 4 + 2, none⟩ = some (.int .u64 a.x) ∧ v.cell? ⟨b, o + n * 4 + 3, none⟩ = some (.slice a.q a.d.length a.c)) (first | with_reducible exact unhide DB3 | with_reducible exact unhide DB1 | with_reducible exact unhide DB2 _)
        (first
          | (refine step_append_fld rfl (.tmp 11) (.tmp 33) 35 rfl w 50 i1 _ 48 Try.underlying35 hi1 y1 z1 b1 rfl _ (l.take n) (by simp [Act.eval]) ((unhide O).below (bl_tr (al1p _ _) (bdrewp _))) a ⟨wr.heap.size, 0, none⟩ 1 (by simp [Act.eval]) (fa_allocD _ _ _) (by rw [unhide HTL]; unfold maxLen; omega) (by rw [unhide HTL]; omega) ?_; intro v2 w2 O2; have HO2 := hide O2; have DB3 := hide (unhide KA _ O2.2); clear O2))
      go_wp2_with fail
      go_roundw
      case rel => exact ⟨n + 1, by go_num, by omega, hide (by rw [unhide HT]; exact unhide HO2)⟩
      case measure => simp [intOf]; omega
    · have hi : ¬ (n : Int) < (l.length : Int) := by omega
      have HE : Hid (l.take n = l) := hide (List.take_of_length_le (by omega))
      go_wp2_with fail
      go_ret
      exact ⟨_, rfl, by have := unhide O; rw [unhide HE] at this; exact this⟩
end Go.Proofs.Ytbcmfgohbppndaa
