import Derived.Test.YtgobpoaalnpagaaGV

/-
  Layer 4: the document's offsets, strides and indices.
-/
namespace Go.Proofs.Ytgobpoaalnpagaa
open Go.RowKit
set_option linter.unusedVariables false

theorem size_ok {ds : List Int} (h : (sizeV ds).2 = 0) : (∀ d ∈ ds, 0 ≤ d ∧ d ≤ 4096) ∧ ds.length ≤ 8 ∧ (((0 : Int) ∈ ds ∧ (sizeV ds).1 = 0) ∨ (¬ (0 : Int) ∈ ds ∧ prodL ds ≤ 4096 ∧ (sizeV ds).1 = prodL ds)) := by
  unfold sizeV at *
  by_cases c1 : ∃ d ∈ ds, d < 0
  · rw [if_pos c1] at h; cases h
  · rw [if_neg c1] at h ⊢
    by_cases c2 : 8 < ds.length ∨ ∃ d ∈ ds, 4096 < d
    · rw [if_pos c2] at h; cases h
    · rw [if_neg c2] at h ⊢
      refine ⟨fun d hd => ⟨?_, ?_⟩, by omega, ?_⟩
      · rcases Int.lt_or_le d 0 with g | g
        · exact absurd ⟨d, hd, g⟩ c1
        · exact g
      · rcases Int.lt_or_le 4096 d with g | g
        · exact absurd (.inr ⟨d, hd, g⟩) c2
        · exact g
      · by_cases c3 : (0 : Int) ∈ ds
        · rw [if_pos c3]; exact .inl ⟨c3, rfl⟩
        · rw [if_neg c3] at h ⊢
          by_cases c4 : 4096 < prodL ds
          · rw [if_pos c4] at h; cases h
          · rw [if_neg c4]; exact .inr ⟨c3, by omega, rfl⟩
theorem size_range (ds : List Int) : 0 ≤ (sizeV ds).1 ∧ (sizeV ds).1 ≤ 4096 ∧ 0 ≤ (sizeV ds).2 ∧ (sizeV ds).2 ≤ 4 := by
  by_cases h : (sizeV ds).2 = 0
  · obtain ⟨h1, h2, h3⟩ := size_ok h
    rcases h3 with ⟨_, e⟩ | ⟨z, p, e⟩
    · rw [e, h]; omega
    · have := prodL_pos ds (fun d hd => by have := h1 d hd; have : d ≠ 0 := fun e => z (e ▸ hd); omega)
      rw [e, h]; omega
  · unfold sizeV at *
    (repeat' split) <;> simp_all
def offN (ds ix : List Int) : Nat → Int
  | 0 => 0
  | n + 1 => offN ds ix n * ds.getD n 0 + ix.getD n 0
def inR (ds ix : List Int) : Prop := ∀ i, i < ds.length → 0 ≤ ix.getD i 0 ∧ ix.getD i 0 < ds.getD i 0
theorem getD_mem {ds : List Int} {n : Nat} (h : n < ds.length) : ds.getD n 0 ∈ ds := by
  have : ds.getD n 0 = ds[n] := by simp [List.getElem?_eq_getElem h]
  rw [this]; exact List.getElem_mem h
/-- Offset: the answer r and the error e that the document asks. -/
def OffsetR (ds ix : List Int) (r e : Int) : Prop :=
  ((sizeV ds).2 ≠ 0 ∧ r = 0 ∧ e = (sizeV ds).2) ∨ ((sizeV ds).2 = 0 ∧ (ix.length ≠ ds.length ∨ ¬ inR ds ix) ∧ r = 0 ∧ e = 2) ∨ ((sizeV ds).2 = 0 ∧ ix.length = ds.length ∧ inR ds ix ∧ r = offN ds ix ds.length ∧ e = 0)
theorem OffsetR.one {ds ix : List Int} {r e r' e' : Int} (h : OffsetR ds ix r e) (k : OffsetR ds ix r' e') : r = r' ∧ e = e' := by
  rcases h with ⟨a, b, c⟩ | ⟨a, b, c, d⟩ | ⟨a, b, c, d, f⟩ <;> rcases k with ⟨a', b', c'⟩ | ⟨a', b', c', d'⟩ | ⟨a', b', c', d', f'⟩ <;> subst_vars
  · exact ⟨rfl, rfl⟩
  · exact absurd a' a
  · exact absurd a' a
  · exact absurd a a'
  · exact ⟨rfl, rfl⟩
  · rcases b with b | b
    · exact absurd b' b
    · exact absurd c' b
  · exact absurd a a'
  · rcases b' with b' | b'
    · exact absurd b b'
    · exact absurd c b'
  · exact ⟨rfl, rfl⟩
/-- Inside, an offset is less than the size. -/
theorem offN_lt {ds ix : List Int} (hp : ∀ d ∈ ds, 1 ≤ d) (h : inR ds ix) : ∀ n, n ≤ ds.length → 0 ≤ offN ds ix n ∧ offN ds ix n < prodL (ds.take n)
  | 0, _ => by simp [offN, prodL]
  | n + 1, hn => by
    obtain ⟨h1, h2⟩ := offN_lt hp h n (by omega)
    have ht := take_succ ds n (by omega)
    obtain ⟨x0, x1⟩ := h n (by omega)
    have d1 := hp _ (getD_mem (show n < ds.length by omega))
    rw [ht, prodL_append, prodL_one]
    show 0 ≤ offN ds ix n * ds.getD n 0 + ix.getD n 0 ∧ offN ds ix n * ds.getD n 0 + ix.getD n 0 < _
    generalize offN ds ix n = A at *
    generalize prodL (ds.take n) = P at *
    generalize ds.getD n 0 = d at *
    generalize ix.getD n 0 = x at *
    have a1 : 0 ≤ A * d := Int.mul_nonneg h1 (by omega)
    have a2 : A * d ≤ (P - 1) * d := Int.mul_le_mul_of_nonneg_right (by omega) (by omega)
    rw [Int.sub_mul, Int.one_mul] at a2
    omega

theorem wrap_eq (a : Int) : (wrap64 a - a) % 18446744073709551616 = 0 := by unfold wrap64; omega
theorem wrap_of {a b : Int} (h : (a - b) % 18446744073709551616 = 0) : wrap64 a = wrap64 b := by unfold wrap64; omega
theorem wrap_mul (a b : Int) : wrap64 (wrap64 a * b) = wrap64 (a * b) := by
  apply wrap_of
  rw [← Int.sub_mul]
  obtain ⟨k, hk⟩ : ∃ k, wrap64 a - a = 18446744073709551616 * k := ⟨(wrap64 a - a) / 18446744073709551616, by have := wrap_eq a; omega⟩
  rw [hk, Int.mul_assoc]
  exact Int.mul_emod_right _ _
theorem wrap_add (a b : Int) : wrap64 (wrap64 a + b) = wrap64 (a + b) := by
  apply wrap_of
  have := wrap_eq a
  omega
theorem wrap_step (T d x : Int) : wrap64 (wrap64 (wrap64 T * d) + x) = wrap64 (T * d + x) := by rw [wrap_mul, wrap_add]

set_option maxRecDepth 100000 in
set_option maxHeartbeats 4000000 in
theorem roffset_any (p q : Option Addr) (cap cap' : Nat) (ds ix : List Int) (w : World) (h1 : Ints .i64 w p cap ds) (h2 : Ints .i64 w q cap' ix) :
    Calls Try.prog 16 #[.slice p ds.length cap, .slice q ix.length cap'] w fun e w' => (∃ r er, e = .returned (.tuple #[.int .i64 r, .int .i64 er]) ∧ OffsetR ds ix r er) ∧ Below w.heap.size w w' := by
  have hl1 := h1.len
  have hl2 := h2.len
  have HSZ := hide (rsize_any p cap ds w h1)
  obtain ⟨sr0, sr1, sr2, sr3⟩ := size_range ds
  obtain ⟨S, hS⟩ : ∃ S, (sizeV ds).1 = S := ⟨_, rfl⟩
  obtain ⟨E, hE⟩ : ∃ E, (sizeV ds).2 = E := ⟨_, rfl⟩
  have hz := @size_ok ds
  rw [hS, hE] at HSZ
  rw [hE] at sr2 sr3 hz
  have HZ := hide hz
  have HE := hide hE
  have H1 := hide h1
  have H2 := hide h2
  clear hz hE hS h1 h2 sr0 sr1
  by_cases he : E = 0
  · by_cases hl : ix.length = ds.length
    · have hli : ((ix.length : Int) != (ds.length : Int)) = false := by simp [hl]
      have hen : ((E : Int) == 0) = true := by simp [he]
      obtain ⟨hr, h8, hp⟩ := unhide HZ he
      have HR := hide hr
      have HP := hide hp
      have HL := hide hl
      have HE0 := hide he
      subst he
      clear hr hp HZ hl
      go_enter Try.func16, Try.ntmps16
      go_wp2_with fail
      refine (unhide HSZ).mono ?_
      rintro e w1 ⟨rfl, rfl⟩
      go_wp2_with fail
      clear hli hen
      go_loopw [8, 9] (fun av iv wr => ∃ n : Nat, ∃ A : Int, iv = .int .i64 n ∧ av = .int .i64 A ∧ n ≤ ds.length ∧ Hid (∀ i, i < n → 0 ≤ ix.getD i 0 ∧ ix.getD i 0 < ds.getD i 0) ∧ Hid (A = wrap64 (offN ds ix n)) ∧ ∃ m, wr = w1.drewN m) (fun _ iv _ => ds.length - (intOf iv).toNat)
      case atStart => exact ⟨0, 0, rfl, rfl, by omega, hide (fun i hi => by omega), hide (by simp [offN, wrap64]), 0, rfl⟩
      case round =>
        obtain ⟨n, A, rfl, rfl, hn, HV, HA, m, rfl⟩ := hrel
        by_cases hlt : n < ds.length
        · have hlt2 : n < ix.length := by rw [unhide HL]; exact hlt
          obtain ⟨b, o, rfl, hb, hc⟩ := (unhide H1).lies (by omega)
          obtain ⟨b', o', rfl, hb', hc'⟩ := (unhide H2).lies (by omega)
          have hi : (n : Int) < (ds.length : Int) := by omega
          have hi2 : (n : Int) < (ix.length : Int) := by omega
          have c1 := hc n hlt
          have c2 := hc' n hlt2
          have HD : Hid (offN ds ix (n + 1) = offN ds ix n * ds.getD n 0 + ix.getD n 0) := hide rfl
          have HNI : Hid (¬ (0 ≤ ix.getD n 0 ∧ ix.getD n 0 < ds.getD n 0) → ¬ inR ds ix) := hide (fun h k => h (k n hlt))
          have HV2 : Hid ((0 ≤ ix.getD n 0 ∧ ix.getD n 0 < ds.getD n 0) → ∀ i, i < n + 1 → 0 ≤ ix.getD i 0 ∧ ix.getD i 0 < ds.getD i 0) := hide (fun h i hi => by
            rcases Nat.lt_or_ge i n with g | g
            · exact unhide HV i g
            · have : i = n := by omega
              subst this; exact h)
          clear hc hc' hlt2 HV
          generalize ds.getD n 0 = d at c1 HD HNI HV2
          generalize ix.getD n 0 = x at c2 HD HNI HV2
          by_cases hx : x < 0
          · have hxd : decide (x < 0) = true := by simp [hx]
            have HNO := hide (unhide HNI (by omega))
            clear HNI HV2 HD
            go_wp2_with fail
            go_quiet (fail)
            go_wp2_with fail
            go_ret2
            exact ⟨⟨_, _, rfl, .inr (.inl ⟨unhide HE, .inr (unhide HNO), rfl, rfl⟩)⟩, bw_drew (bw_drew (Below.refl _ _) _) _⟩
          · have hxd : decide (x < 0) = false := by simp [hx]
            by_cases hg : d ≤ x
            · have hgd : decide (d ≤ x) = true := by simp [hg]
              have HNO := hide (unhide HNI (by omega))
              clear HNI HV2 HD
              go_wp2_with fail
              go_quiet (fail)
              go_wp2_with fail
              go_ret2
              exact ⟨⟨_, _, rfl, .inr (.inl ⟨unhide HE, .inr (unhide HNO), rfl, rfl⟩)⟩, bw_drew (bw_drew (Below.refl _ _) _) _⟩
            · have hgd : decide (d ≤ x) = false := by simp [hg]
              have HV3 := hide (unhide HV2 ⟨by omega, by omega⟩)
              clear HNI HV2
              go_wp2_with fail
              go_quiet (fail)
              go_wp2_with fail
              go_quiet (fail)
              go_wp2_with fail
              go_roundw
              case rel =>
                refine ⟨n + 1, _, by go_num, rfl, by omega, HV3, hide ?_, _, rfl⟩
                rw [unhide HD, unhide HA]
                exact wrap_step _ _ _
              case measure => simp [intOf]; omega
        · have hi : ¬ (n : Int) < (ds.length : Int) := by omega
          have en : n = ds.length := by omega
          subst en
          have hin : inR ds ix := unhide HV
          have hb : A = offN ds ix ds.length := by
            rcases unhide HP with ⟨z, _⟩ | ⟨z, p4, _⟩
            · exfalso
              obtain ⟨i, hi, e⟩ := List.getElem_of_mem z
              have := hin i hi
              have e2 : ds.getD i 0 = 0 := by rw [← e]; simp [List.getElem?_eq_getElem hi]
              omega
            · have hp : ∀ d ∈ ds, 1 ≤ d := fun d hd => by have := unhide HR d hd; have : d ≠ 0 := fun e => z (e ▸ hd); omega
              obtain ⟨o1, o2⟩ := offN_lt hp hin ds.length (Nat.le_refl _)
              rw [List.take_length] at o2
              rw [unhide HA]; unfold wrap64; omega
          have HB := hide hb
          have HIN := hide hin
          clear hb hin
          go_wp2_with fail
          go_ret2
          exact ⟨⟨_, _, rfl, .inr (.inr ⟨unhide HE, unhide HL, unhide HIN, unhide HB, rfl⟩)⟩, bw_drew (Below.refl _ _) _⟩
    · have hli : ((ix.length : Int) == (ds.length : Int)) = false := by simp; omega
      have HL := hide hl
      subst he
      clear HZ hl
      go_enter Try.func16, Try.ntmps16
      go_wp2_with fail
      refine (unhide HSZ).mono ?_
      rintro e w1 ⟨rfl, rfl⟩
      go_wp2_with fail
      go_ret2
      exact ⟨⟨_, _, rfl, .inr (.inl ⟨unhide HE, .inl (unhide HL), rfl, rfl⟩)⟩, Below.refl _ _⟩
  · have hen : ((E : Int) == 0) = false := by simp [he]
    have HNE := hide he
    clear HZ he
    go_enter Try.func16, Try.ntmps16
    go_wp2_with fail
    refine (unhide HSZ).mono ?_
    rintro e w1 ⟨rfl, rfl⟩
    go_wp2_with fail
    go_ret2
    exact ⟨⟨_, _, rfl, .inl ⟨by rw [unhide HE]; exact unhide HNE, rfl, (unhide HE).symm⟩⟩, Below.refl _ _⟩
end Go.Proofs.Ytgobpoaalnpagaa
