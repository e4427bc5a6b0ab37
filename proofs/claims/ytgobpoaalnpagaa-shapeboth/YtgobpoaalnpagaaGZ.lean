import Derived.Test.YtgobpoaalnpagaaGY

/-
  Layer 4: the document's indices.
-/
namespace Go.Proofs.Ytgobpoaalnpagaa
open Go.RowKit
set_option linter.unusedVariables false

/-- A row of n ints that the call made: its numbers. -/
def MadeI (w wr : World) (g n : Nat) (os : List Int) : Prop :=
  os.length = n ∧ wr.ownsRow w.heap.size 3 1 (.slice (some ⟨g, 0, none⟩) n n) n (vals os) ∧ Below w.heap.size w wr ∧ (∀ d ∈ os, (Lit.int .i64 d).wf = true) ∧ w.heap.size ≤ g
theorem MadeI.stored {w wr : World} {g n : Nat} {os : List Int} (h : MadeI w wr g n os) (j : Nat) (d : Int) (hd : (Lit.int .i64 d).wf = true) :
    MadeI w (wr.setCell ⟨g, j, none⟩ (.int .i64 d)) g n (os.set j d) := by
  obtain ⟨h1, h2, h3, h4, h5⟩ := h
  refine ⟨by simpa using h1, ?_, h3.setCell h5 _, ?_, h5⟩
  · have := (h2.stored j (.int .i64 d)).1
    unfold vals at this ⊢
    rw [← List.map_set] at this
    exact this
  · intro x hx
    rcases List.mem_or_eq_of_mem_set hx with h | h
    · exact h4 x h
    · subst h; exact hd
theorem MadeI.cell {w wr : World} {g n : Nat} {os : List Int} (h : MadeI w wr g n os) (j : Nat) (hj : j < n) : wr.cell? ⟨g, j, none⟩ = some (.int .i64 (os.getD j 0)) := by
  have hl := h.1
  rw [h.2.1.cellAt j (by omega), vals, List.getElem?_map, List.getElem?_eq_getElem (by omega), List.getD_eq_getElem?_getD, List.getElem?_eq_getElem (by omega)]; rfl
theorem MadeI.own {w wr : World} {g n : Nat} {os : List Int} (h : MadeI w wr g n os) : OwnI w wr (.slice (some ⟨g, 0, none⟩) n n) os :=
  ⟨by rw [h.1]; exact h.2.1, h.2.2.1, h.2.2.2.1⟩
theorem MadeI.first {w w1 : World} {n : Nat} (hown : w1.ownsRow w.heap.size 3 1 (.slice (some ⟨w.heap.size, 0, none⟩) n n) n (madeCells (Value.int .i64 0).cells (n * 1)).toList) (hg : w.grownBy w1 none) :
    MadeI w w1 w.heap.size n (List.replicate n 0) := by
  refine ⟨by simp, ?_, (Below.refl _ _).grown hg (Nat.le_refl _) (fun k hk => by cases hk), ?_, Nat.le_refl _⟩
  · have e : (madeCells (Value.int .i64 0).cells (n * 1)).toList = vals (List.replicate n 0) := by
      unfold vals
      rw [Nat.mul_one, show (Value.int .i64 0).cells = #[Value.int .i64 0] from rfl, toList_madeCells_one, List.map_replicate]
    rw [← e]; exact hown
  · intro d hd; rw [List.mem_replicate] at hd; rw [hd.2]; decide

/-- The last m digits' worth. -/
def sufM (ds xs : List Int) : Nat → Int
  | 0 => 0
  | m + 1 => xs.getD (ds.length - 1 - m) 0 * prodL (ds.drop (ds.length - m)) + sufM ds xs m
theorem drop_cons (ds : List Int) (i : Nat) (h : i < ds.length) : prodL (ds.drop i) = ds.getD i 0 * prodL (ds.drop (i + 1)) := by
  have : ds.getD i 0 = ds[i] := by simp [List.getElem?_eq_getElem h]
  rw [this, List.drop_eq_getElem_cons h]; rfl
/-- An offset is the first digits' worth and the last digits'. -/
theorem off_suf (ds xs : List Int) : ∀ n, n ≤ ds.length → offN ds xs n * prodL (ds.drop n) + sufM ds xs (ds.length - n) = sufM ds xs ds.length
  | 0, _ => by simp [offN]
  | n + 1, hn => by
    have ih := off_suf ds xs n (by omega)
    have e : ds.length - n = (ds.length - (n + 1)) + 1 := by omega
    rw [e] at ih
    show (offN ds xs n * ds.getD n 0 + xs.getD n 0) * prodL (ds.drop (n + 1)) + sufM ds xs (ds.length - (n + 1)) = _
    rw [← ih, drop_cons ds n (by omega)]
    show _ = _ + (xs.getD (ds.length - 1 - (ds.length - (n + 1))) 0 * prodL (ds.drop (ds.length - (ds.length - (n + 1)))) + sufM ds xs (ds.length - (n + 1)))
    rw [show ds.length - 1 - (ds.length - (n + 1)) = n by omega, show ds.length - (ds.length - (n + 1)) = n + 1 by omega, Int.add_mul, Int.mul_assoc, Int.add_assoc]
theorem off_is_suf (ds xs : List Int) : offN ds xs ds.length = sufM ds xs ds.length := by
  have := off_suf ds xs ds.length (Nat.le_refl _)
  rw [List.drop_length, Nat.sub_self] at this
  simpa [prodL, sufM] using this
/-- Only the last m digits count. -/
theorem sufM_congr {ds xs ys : List Int} : ∀ m, m ≤ ds.length → (∀ i, ds.length - m ≤ i → i < ds.length → xs.getD i 0 = ys.getD i 0) → sufM ds xs m = sufM ds ys m
  | 0, _, _ => rfl
  | m + 1, hm, h => by
    show xs.getD _ 0 * _ + sufM ds xs m = ys.getD _ 0 * _ + sufM ds ys m
    rw [h (ds.length - 1 - m) (by omega) (by omega), sufM_congr m (by omega) (fun i h1 h2 => h i (by omega) h2)]

/-- Index: the list and the error that the document asks. -/
def IndexR (ds : List Int) (at' : Int) (xs : List Int) (e : Int) : Prop :=
  ((sizeV ds).2 ≠ 0 ∧ xs = [] ∧ e = (sizeV ds).2) ∨ ((sizeV ds).2 = 0 ∧ (at' < 0 ∨ (sizeV ds).1 ≤ at') ∧ xs = [] ∧ e = 2) ∨
  ((sizeV ds).2 = 0 ∧ 0 ≤ at' ∧ at' < (sizeV ds).1 ∧ xs.length = ds.length ∧ inR ds xs ∧ offN ds xs ds.length = at' ∧ e = 0)
theorem getD_set (xs : List Int) (i j : Nat) (d : Int) (h : i < xs.length) : (xs.set i d).getD j 0 = if j = i then d else xs.getD j 0 := by
  rw [List.getD_eq_getElem?_getD, List.getD_eq_getElem?_getD, List.getElem?_set]
  by_cases e : i = j
  · subst e; simp [h]
  · rw [if_neg e, if_neg (fun h => e h.symm)]

set_option maxRecDepth 100000 in
set_option maxHeartbeats 4000000 in
theorem rindex_any (p : Option Addr) (cap : Nat) (ds : List Int) (at' : Int) (w : World) (h1 : Ints .i64 w p cap ds) (ha : -9223372036854775808 ≤ at' ∧ at' < 9223372036854775808) :
    Calls Try.prog 14 #[.slice p ds.length cap, .int .i64 at'] w fun e w' => (∃ q c xs er, e = .returned (.tuple #[.slice q xs.length c, .int .i64 er]) ∧ Ints .i64 w' q c xs ∧ IndexR ds at' xs er) ∧ Below w.heap.size w w' := by
  have hl1 := h1.len
  obtain ⟨a0, a1⟩ := ha
  obtain ⟨i0, hi, hz0, hz1, hz2⟩ := info_parts Try.infoInt
  have HSZ := hide (rsize_any p cap ds w h1)
  obtain ⟨sr0, sr1, sr2, sr3⟩ := size_range ds
  obtain ⟨S, hS⟩ : ∃ S, (sizeV ds).1 = S := ⟨_, rfl⟩
  obtain ⟨E, hE⟩ : ∃ E, (sizeV ds).2 = E := ⟨_, rfl⟩
  have hz := @size_ok ds
  rw [hS, hE] at HSZ
  rw [hE] at sr2 sr3
  rw [hS] at sr0 sr1
  rw [hS, hE] at hz
  have HZ := hide hz
  have HE := hide hE
  have HS := hide hS
  have H1 := hide h1
  have nilI : ∀ w : World, Ints .i64 w none 0 [] := fun w => ⟨by simp, by omega, by simp, by simp, fun _ => rfl⟩
  clear hz hE hS h1
  by_cases he : E = 0
  · by_cases hlo : at' < 0
    · have hlod : decide (at' < 0) = true := by simp [hlo]
      subst he
      clear HZ
      go_enter Try.func14, Try.ntmps14
      go_wp2_with fail
      refine (unhide HSZ).mono ?_
      rintro e w1 ⟨rfl, rfl⟩
      go_wp2_with fail
      go_ret2
      exact ⟨⟨none, 0, [], 2, rfl, nilI _, .inr (.inl ⟨unhide HE, .inl hlo, rfl, rfl⟩)⟩, Below.refl _ _⟩
    · have hlod : decide (at' < 0) = false := by simp [hlo]
      by_cases hhi : S ≤ at'
      · have hhid : decide (S ≤ at') = true := by simp [hhi]
        subst he
        clear HZ
        go_enter Try.func14, Try.ntmps14
        go_wp2_with fail
        refine (unhide HSZ).mono ?_
        rintro e w1 ⟨rfl, rfl⟩
        go_wp2_with fail
        go_ret2
        exact ⟨⟨none, 0, [], 2, rfl, nilI _, .inr (.inl ⟨unhide HE, .inr (by rw [unhide HS]; exact hhi), rfl, rfl⟩)⟩, Below.refl _ _⟩
      · have hhid : decide (S ≤ at') = false := by simp [hhi]
        obtain ⟨hr, h8, hp⟩ := unhide HZ he
        have hpos : (∀ d ∈ ds, 1 ≤ d ∧ d ≤ 4096) ∧ S = prodL ds := by
          rcases hp with ⟨_, e⟩ | ⟨z, _, e⟩
          · omega
          · exact ⟨fun d hd => by have := hr d hd; have : d ≠ 0 := fun e => z (e ▸ hd); omega, e⟩
        have HPOS := hide hpos.1
        have HSP := hide hpos.2
        subst he
        clear hr hp HZ hpos
        go_enter Try.func14, Try.ntmps14
        go_wp2_with fail
        refine (unhide HSZ).mono ?_
        rintro e w1 ⟨rfl, rfl⟩
        go_wp2_with (at_make; refine wpList_make_full _ rfl _ _ 22 rfl w1.heap.size 3 i0 (.int .i64 0) 1 Try.underlying22 hi hz0 hz1 _ _ _ _ ds.length rfl rfl (by omega) (by omega) (by rw [hz2]; omega) (by unfold maxLen; omega) (Nat.le_refl _) ?_; intro w2 hown hgrow)
        have HM0 := hide (MadeI.first hown hgrow)
        clear hown hgrow
        go_loopw [1, 9] (fun av iv wr => ∃ n : Nat, ∃ A : Int, ∃ xs : List Int, iv = .int .i64 ((n : Int) - 1) ∧ av = .int .i64 A ∧ n ≤ ds.length ∧ 0 ≤ A ∧ A ≤ 4096 ∧ Hid (A < prodL (ds.take n)) ∧ MadeI w1 wr w1.heap.size ds.length xs ∧
            Hid (∀ i, n ≤ i → i < ds.length → 0 ≤ xs.getD i 0 ∧ xs.getD i 0 < ds.getD i 0) ∧ Hid (at' = A * prodL (ds.drop n) + sufM ds xs (ds.length - n))) (fun _ iv _ => (intOf iv + 1).toNat)
        case atStart =>
          refine ⟨ds.length, at', List.replicate ds.length 0, by go_num, rfl, Nat.le_refl _, by omega, by omega, hide ?_, unhide HM0, hide (fun i h1 h2 => by omega), hide ?_⟩
          · rw [List.take_length, ← unhide HSP]; omega
          · rw [List.drop_length, Nat.sub_self]; simp [prodL, sufM]
        case round =>
          obtain ⟨n, A, xs, rfl, rfl, hn, A0, A1, HA, hM, HV, HT⟩ := hrel
          have HM := hide hM
          clear hM
          by_cases hlt : 0 < n
          · obtain ⟨j, rfl⟩ : ∃ j, n = j + 1 := ⟨n - 1, by omega⟩
            have hj : j < ds.length := by omega
            have ej : ((j + 1 : Nat) : Int) - 1 = (j : Int) := by omega
            rw [ej]
            obtain ⟨b, o, rfl, hb, hc⟩ := (unhide H1).lies (by omega)
            have hcell : wr.cell? ⟨b, o + j, none⟩ = some (.int .i64 (ds.getD j 0)) := ((unhide HM).2.2.1.cell (p := ⟨b, o + j, none⟩) hb).trans (hc j hj)
            have hmem := getD_mem hj
            obtain ⟨d0, d1⟩ := unhide HPOS _ hmem
            have hge : (0 : Int) ≤ (j : Int) := by omega
            have hji : (j : Int) < (ds.length : Int) := by omega
            have hbn : b < w1.heap.size := hb
            have ht := take_succ ds j hj
            have hdr := drop_cons ds j hj
            have HTK := hide ht
            have HDR := hide hdr
            have hlx : xs.length = ds.length := (unhide HM).1
            have hwrs : w1.heap.size < wr.heap.size := ((unhide HM).2.1.lt w1.heap.size rfl).2
            have HLX := hide hlx
            have HDD : Hid (ds.getD j 0 = ds.getD j 0) := hide rfl
            clear hc hmem ht hdr hlx
            obtain ⟨d, hd⟩ : ∃ d, ds.getD j 0 = d := ⟨_, rfl⟩
            rw [hd] at hcell d0 d1 HTK HDR
            have HD := hide hd
            clear hd HDD
            have hdz : (d == 0) = false := by simp; omega
            have qr : A / d * d + A % d = A := by rw [Int.mul_comm]; exact Int.mul_ediv_add_emod A d
            have r0 : 0 ≤ A % d := Int.emod_nonneg _ (by omega)
            have r1 : A % d < d := Int.emod_lt_of_pos _ (by omega)
            have q0 : 0 ≤ A / d := Int.ediv_nonneg A0 (by omega)
            have q1 : A / d ≤ A := Int.ediv_le_self _ A0
            have HQR := hide qr
            obtain ⟨Q, hQ⟩ : ∃ Q, A / d = Q := ⟨_, rfl⟩
            obtain ⟨T, hT⟩ : ∃ T, A % d = T := ⟨_, rfl⟩
            have HQ := hide hQ
            have HTT := hide hT
            rw [hQ, hT] at HQR
            rw [hQ] at q0 q1
            rw [hT] at r0 r1
            have hTm : A.tmod d = T := by rw [Int.tmod_eq_emod_of_nonneg A0, hT]
            have hQm : A.tdiv d = Q := by rw [Int.tdiv_eq_ediv_of_nonneg A0, hQ]
            have c3 := (unhide HM).cell j hj
            have z3 : wr.frozen? ⟨w1.heap.size, j, none⟩ = false := (unhide HM).2.1.frozenAt j
            have hne : b ≠ w1.heap.size := by omega
            have twf : (Lit.int .i64 T).wf = true := WalkArith.wf_i64 (by omega)
            have HM2 := hide ((unhide HM).stored j T twf)
            have hpre : Hid (Q < prodL (ds.take j)) := hide (by
              have h1 := unhide HA
              rw [unhide HTK, prodL_append, prodL_one] at h1
              have h2 := unhide HQR
              rcases Int.lt_or_le Q (prodL (ds.take j)) with g | g
              · exact g
              · have := Int.mul_le_mul_of_nonneg_right g (show 0 ≤ d by omega)
                omega)
            have hval : Hid (∀ i, j ≤ i → i < ds.length → 0 ≤ (xs.set j T).getD i 0 ∧ (xs.set j T).getD i 0 < ds.getD i 0) := hide (fun i h1 h2 => by
              rw [getD_set xs j i T (by rw [unhide HLX]; exact hj)]
              split
              · rename_i e; rw [e, unhide HD]; omega
              · exact unhide HV i (by omega) h2)
            have hsum : Hid (at' = Q * prodL (ds.drop j) + sufM ds (xs.set j T) (ds.length - j)) := hide (by
              have e : ds.length - j = (ds.length - (j + 1)) + 1 := by omega
              rw [e]
              show at' = Q * prodL (ds.drop j) + ((xs.set j T).getD (ds.length - 1 - (ds.length - (j + 1))) 0 * prodL (ds.drop (ds.length - (ds.length - (j + 1)))) + sufM ds (xs.set j T) (ds.length - (j + 1)))
              rw [show ds.length - 1 - (ds.length - (j + 1)) = j by omega, show ds.length - (ds.length - (j + 1)) = j + 1 by omega, getD_set xs j j T (by rw [unhide HLX]; exact hj), if_pos rfl]
              rw [sufM_congr (xs := xs.set j T) (ys := xs) (ds.length - (j + 1)) (by omega) (fun i h1 h2 => by rw [getD_set xs j i T (by rw [unhide HLX]; exact hj), if_neg (by omega)])]
              rw [unhide HT, unhide HDR, ← Int.mul_assoc, ← Int.add_assoc, ← Int.add_mul, unhide HQR])
            clear HM HV HT HA HTK HDR HQR HQ HTT HD twf
            go_wp2_with fail
            go_roundw
            case rel => exact ⟨j, Q, xs.set j T, by go_num, rfl, by omega, by omega, by omega, hpre, unhide HM2, hval, hsum⟩
            case measure => simp [intOf]
          · have hn0 : n = 0 := by omega
            subst hn0
            have hneg : ¬ (0 : Int) ≤ ((0 : Nat) : Int) - 1 := by omega
            obtain ⟨q, c, hv, hI⟩ := (unhide HM).own.form
            have hA0 : A = 0 := by have := unhide HA; simp [prodL] at this; omega
            have hin : inR ds xs := fun i hi => unhide HV i (by omega) hi
            have hoff : offN ds xs ds.length = at' := by
              have := unhide HT
              rw [hA0, Int.zero_mul, Int.zero_add, Nat.sub_zero] at this
              rw [off_is_suf, ← this]
            have hlx : xs.length = ds.length := (unhide HM).1
            simp only [Value.slice.injEq] at hv
            obtain ⟨rfl, _, rfl⟩ := hv
            have HI := hide hI
            have HB := hide (unhide HM).2.2.1
            have HIN := hide hin
            have HOFF := hide hoff
            have HLX := hide hlx
            clear hI HM hin hoff HT HV HA hlx hA0
            go_wp2_with fail
            go_ret2
            refine ⟨⟨_, _, xs, 0, ?_, unhide HI, .inr (.inr ⟨unhide HE, by omega, by rw [unhide HS]; omega, unhide HLX, unhide HIN, unhide HOFF, rfl⟩)⟩, unhide HB⟩
            rw [unhide HLX]
            rfl
  · have hen : ((E : Int) != 0) = true := by simp [he]
    have HNE := hide he
    clear HZ he
    go_enter Try.func14, Try.ntmps14
    go_wp2_with fail
    refine (unhide HSZ).mono ?_
    rintro e w1 ⟨rfl, rfl⟩
    go_wp2_with fail
    go_ret2
    exact ⟨⟨none, 0, [], E, rfl, nilI _, .inl ⟨by rw [unhide HE]; exact unhide HNE, rfl, (unhide HE).symm⟩⟩, Below.refl _ _⟩
end Go.Proofs.Ytgobpoaalnpagaa
