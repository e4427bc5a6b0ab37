import Derived.Test.YtgobpoaalnpagaaHG

/-
  Layer 4: the document's answer to where an element stands in the smaller shape.
-/
namespace Go.Proofs.Ytgobpoaalnpagaa
open Go.RowKit
set_option linter.unusedVariables false

theorem BroadR.range {a b xs : List Int} {e : Int} (h : BroadR a b xs e) : 0 ≤ e ∧ e ≤ 4 := by
  have h1 := size_range a; have h2 := size_range b; have h3 := size_range (bcL a b)
  rcases h with ⟨_, _, e⟩ | ⟨_, _, _, e⟩ | ⟨_, _, _, _, e⟩ | ⟨_, _, _, _, _, e⟩ | ⟨_, _, _, _, _, e⟩ <;> omega
/-- Where Broadcast errs, or is not the greater one, the smaller one does not go out to it. -/
theorem broad_no {sm ds xs : List Int} {e : Int} (es : (sizeV sm).2 = 0) (ed : (sizeV ds).2 = 0) (h : BroadR sm ds xs e) (he : e ≠ 0 ∨ xs ≠ ds) : ¬ spreadsP sm ds := by
  intro hs
  obtain ⟨f1, f2⟩ := (spreads_iff sm ds).1 hs
  rcases h with ⟨a1, b1, c1⟩ | ⟨a1, b1, c1, d1⟩ | ⟨a1, b1, c1, d1, e1⟩ | ⟨a1, b1, c1, d1, e1, f3⟩ | ⟨a1, b1, c1, d1, e1, f3⟩
  · exact a1 es
  · exact b1 ed
  · exact c1 f1
  · rw [f2] at d1; exact d1 ed
  · rcases he with g | g
    · exact g f3
    · exact g (by rw [e1, f2])
theorem broad_yes {sm ds xs : List Int} {e : Int} (h : BroadR sm ds xs e) (he : e = 0) (hx : xs = ds) : spreadsP sm ds := by
  rcases h with ⟨a1, b1, c1⟩ | ⟨a1, b1, c1, d1⟩ | ⟨a1, b1, c1, d1, e1⟩ | ⟨a1, b1, c1, d1, e1, f3⟩ | ⟨a1, b1, c1, d1, e1, f3⟩
  · omega
  · omega
  · omega
  · omega
  · exact (spreads_iff sm ds).2 ⟨c1, by rw [← e1, hx]⟩

set_option maxRecDepth 100000 in
set_option maxHeartbeats 8000000 in
theorem rfrom_any (p q : Option Addr) (cap cap' : Nat) (sm ds : List Int) (at' : Int) (w : World) (h1 : Ints .i64 w p cap sm) (h2 : Ints .i64 w q cap' ds) (ha : -9223372036854775808 ≤ at' ∧ at' < 9223372036854775808) :
    Calls Try.prog 22 #[.slice p sm.length cap, .slice q ds.length cap', .int .i64 at'] w fun e w' => (∃ r er, e = .returned (.tuple #[.int .i64 r, .int .i64 er]) ∧ FromR sm ds at' r er) ∧ Below w.heap.size w w' := by
  have SA := hide (rsize_any p cap sm w h1)
  have SB := hide (rsize_any q cap' ds w h2)
  by_cases es : (sizeV sm).2 = 0
  · by_cases ed : (sizeV ds).2 = 0
    · obtain ⟨k1, k2, _⟩ := size_ok es
      obtain ⟨_, k4, _⟩ := size_ok ed
      have SC := hide (rbroad_any p q cap cap' sm ds w h1 h2)
      rw [es] at SA
      rw [ed] at SB
      have ES := hide es
      have ED := hide ed
      have HAT := hide ha
      obtain ⟨Na, hNa⟩ : ∃ S, (sizeV sm).1 = S := ⟨_, rfl⟩
      obtain ⟨Nb, hNb⟩ : ∃ S, (sizeV ds).1 = S := ⟨_, rfl⟩
      rw [hNa] at SA
      rw [hNb] at SB
      have HNB := hide hNb
      have H1 := hide h1
      have H2 := hide h2
      clear es ed h1 h2 k1 hNa hNb ha
      go_enter Try.func22, Try.ntmps22
      go_wp2_with fail
      refine (unhide SA).mono ?_
      rintro e w1 ⟨rfl, rfl⟩
      go_wp2_with fail
      refine (unhide SB).mono ?_
      rintro e w2 ⟨rfl, rfl⟩
      go_wp2_with fail
      refine (unhide SC).mono ?_
      rintro e w3 ⟨⟨s, c, xs, er, rfl, hI, hR⟩, hb⟩
      have HI := hide hI
      have HR := hide hR
      have HB := hide hb
      obtain ⟨e0, e1⟩ := hR.range
      clear hI hR hb SA SB SC
      by_cases he : er = 0
      · by_cases hx : xs = ds
        · have HS := hide (broad_yes (unhide HR) he hx)
          have RS := hide (rsame_true s q c cap' xs ds w3 (unhide HI) ((unhide H2).below (unhide HB)) hx)
          subst he
          clear hx HI HR
          go_wp2_with fail
          refine (unhide RS).mono ?_
          rintro e w4 ⟨rfl, hb4⟩
          have HB4 := hide (bl_tr (unhide HB) hb4)
          clear hb4 RS HB
          by_cases hlo : at' < 0
          · have hlod : decide (at' < 0) = true := by simp [hlo]
            go_wp2_with fail
            go_ret2
            exact ⟨⟨_, _, rfl, .inr (.inr (.inr (.inl ⟨unhide ES, unhide ED, unhide HS, .inl hlo, rfl, rfl⟩)))⟩, unhide HB4⟩
          · have hlod : decide (at' < 0) = false := by simp [hlo]
            by_cases hhi : Nb ≤ at'
            · have hhid : decide (Nb ≤ at') = true := by simp [hhi]
              go_wp2_with fail
              go_ret2
              exact ⟨⟨_, _, rfl, .inr (.inr (.inr (.inl ⟨unhide ES, unhide ED, unhide HS, .inr (by rw [unhide HNB]; exact hhi), rfl, rfl⟩)))⟩, unhide HB4⟩
            · have hhid : decide (Nb ≤ at') = false := by simp [hhi]
              have RI := hide (rindex_any q cap' ds at' w4 ((unhide H2).below (unhide HB4)) (unhide HAT))
              go_wp2_with fail
              refine (unhide RI).mono ?_
              rintro e w5 ⟨⟨t, c5, ix, er5, rfl, hI5, hR5⟩, hb5⟩
              obtain ⟨lx, hin, hof, he5⟩ : ix.length = ds.length ∧ inR ds ix ∧ offN ds ix ds.length = at' ∧ er5 = 0 := by
                rcases hR5 with ⟨a, _⟩ | ⟨_, a, _⟩ | ⟨_, _, _, a, b, c, d⟩
                · exact absurd (unhide ED) a
                · have := unhide HNB; omega
                · exact ⟨a, b, c, d⟩
              subst he5
              have HLX := hide lx
              have HIN := hide hin
              have HOF := hide hof
              have HI5 := hide hI5
              have HB5 := hide (bl_tr (unhide HB4) hb5)
              obtain ⟨g1, g2, g3, g4⟩ := size_pos (unhide ED) (show 0 ≤ at' by omega) (by rw [unhide HNB]; omega)
              have hsp := spread_pos (unhide HS) (fun d hd => (g1 d hd).1)
              have HOS := hide (off_small hsp (size_small (unhide ES) hsp) (mask_in (unhide HS) hsp lx hin))
              have hle := (unhide HS).1
              obtain ⟨off, hoff⟩ : ∃ off, ds.length - sm.length = off := ⟨_, rfl⟩
              have hoi : (ds.length : Int) - (sm.length : Int) = (off : Int) := by omega
              have HOFF := hide hoff
              have HOFL : Hid (off + sm.length = ds.length) := hide (by omega)
              have ho8 : off ≤ 8 := by omega
              clear lx hin hof hI5 hR5 hb5 RI g1 g3 g4 hsp hoff
              go_wp2_with fail
              go_loop [17, 18] (fun ov iv => ∃ n : Nat, ∃ A : Int, iv = .int .i64 n ∧ ov = .int .i64 A ∧ n ≤ sm.length ∧ Hid (A = wrap64 (offN sm (maskL sm ix off) n))) (fun _ iv => sm.length - (intOf iv).toNat)
              case atStart => exact ⟨0, 0, rfl, rfl, by omega, hide (by simp [offN, wrap64])⟩
              case round =>
                obtain ⟨n, A, rfl, rfl, hn, HA⟩ := hrel
                by_cases hlt : n < sm.length
                · have hi : (n : Int) < (sm.length : Int) := by omega
                  have hol : off + n < ix.length := by rw [unhide HLX]; have := unhide HOFL; omega
                  obtain ⟨b, o, rfl, hb, hc⟩ := ((unhide H1).below (unhide HB5)).lies (by omega)
                  obtain ⟨b', o', rfl, hb', hc'⟩ := (unhide HI5).lies (by omega)
                  have c1 := hc n hlt
                  have c2 := hc' (off + n) hol
                  have hoi2 : (off : Int) + (n : Int) < (ix.length : Int) := by omega
                  have hon : (off : Int) + (n : Int) = ((off + n : Nat) : Int) := by omega
                  have HD : Hid (offN sm (maskL sm ix off) (n + 1) = offN sm (maskL sm ix off) n * sm.getD n 0 + (if sm.getD n 0 = 1 then 0 else ix.getD (off + n) 0)) := hide (by
                    show offN sm (maskL sm ix off) n * sm.getD n 0 + (maskL sm ix off).getD n 0 = _
                    rw [maskL_getD sm ix off n hlt])
                  clear hc hc'
                  generalize sm.getD n 0 = d at c1 HD
                  generalize ix.getD (off + n) 0 = x at c2 HD
                  obtain ⟨j, hj⟩ : ∃ j, off + n = j := ⟨_, rfl⟩
                  rw [hj] at c2 hon hol
                  clear hj
                  rw [hon] at hoi2
                  by_cases hd : d = 1
                  · subst hd
                    have HD2 : Hid (offN sm (maskL sm ix off) (n + 1) = offN sm (maskL sm ix off) n * 1 + 0) := hide (by rw [unhide HD, if_pos rfl])
                    clear HD
                    go_wp2_with fail
                    go_round
                    case rel =>
                      refine ⟨n + 1, _, by go_num, rfl, by omega, hide ?_⟩
                      rw [unhide HD2, unhide HA]
                      try rw [← wrap_step]
                      try simp
                    case measure => simp [intOf]; omega
                  · have hdb : (d == 1) = false := by simp [hd]
                    have HD2 : Hid (offN sm (maskL sm ix off) (n + 1) = offN sm (maskL sm ix off) n * d + x) := hide (by rw [unhide HD, if_neg hd])
                    clear HD hd
                    go_wp2_with fail
                    go_round
                    case rel =>
                      refine ⟨n + 1, _, by go_num, rfl, by omega, hide ?_⟩
                      rw [unhide HD2, unhide HA]
                      exact wrap_step _ _ _
                    case measure => simp [intOf]; omega
                · have hi : ¬ (n : Int) < (sm.length : Int) := by omega
                  have en : n = sm.length := by omega
                  subst en
                  go_wp2_with fail
                  go_ret2
                  refine ⟨⟨_, _, rfl, .inr (.inr (.inr (.inr ⟨unhide ES, unhide ED, unhide HS, by omega, by rw [unhide HNB]; omega, ⟨ix, unhide HLX, unhide HIN, unhide HOF, ?_⟩, rfl⟩)))⟩, unhide HB5⟩
                  have h1 := unhide HA
                  have h2 := unhide HOS
                  rw [unhide HOFF] at h2 ⊢
                  rw [h2] at h1
                  exact h1
        · have HS := hide (broad_no (unhide ES) (unhide ED) (unhide HR) (.inr hx))
          have RS := hide (rsame_false s q c cap' xs ds w3 (unhide HI) ((unhide H2).below (unhide HB)) hx)
          subst he
          clear hx HI HR
          go_wp2_with fail
          refine (unhide RS).mono ?_
          rintro e w4 ⟨rfl, hb4⟩
          go_wp2_with fail
          go_ret2
          exact ⟨⟨_, _, rfl, .inr (.inr (.inl ⟨unhide ES, unhide ED, unhide HS, rfl, rfl⟩))⟩, bl_tr (unhide HB) hb4⟩
      · have HS := hide (broad_no (unhide ES) (unhide ED) (unhide HR) (.inl he))
        have hen : (er != 0) = true := by simp [he]
        clear he HI HR
        go_wp2_with fail
        go_ret2
        exact ⟨⟨_, _, rfl, .inr (.inr (.inl ⟨unhide ES, unhide ED, unhide HS, rfl, rfl⟩))⟩, unhide HB⟩
    · rw [es] at SA
      have ES := hide es
      have ED := hide ed
      obtain ⟨Na, hNa⟩ : ∃ S, (sizeV sm).1 = S := ⟨_, rfl⟩
      obtain ⟨Nb, hNb⟩ : ∃ S, (sizeV ds).1 = S := ⟨_, rfl⟩
      obtain ⟨E, hE⟩ : ∃ E, (sizeV ds).2 = E := ⟨_, rfl⟩
      rw [hNa] at SA
      rw [hNb, hE] at SB
      have hne : (E != 0) = true := by rw [hE] at ed; simp [ed]
      have HE := hide hE
      clear es ed h1 h2 hNa hNb hE
      go_enter Try.func22, Try.ntmps22
      go_wp2_with fail
      refine (unhide SA).mono ?_
      rintro e w1 ⟨rfl, rfl⟩
      go_wp2_with fail
      refine (unhide SB).mono ?_
      rintro e w2 ⟨rfl, rfl⟩
      go_wp2_with fail
      go_ret2
      exact ⟨⟨_, _, rfl, .inr (.inl ⟨unhide ES, unhide ED, rfl, (unhide HE).symm⟩)⟩, Below.refl _ _⟩
  · have ES := hide es
    obtain ⟨Na, hNa⟩ : ∃ S, (sizeV sm).1 = S := ⟨_, rfl⟩
    obtain ⟨E, hE⟩ : ∃ E, (sizeV sm).2 = E := ⟨_, rfl⟩
    rw [hNa, hE] at SA
    have hne : (E != 0) = true := by rw [hE] at es; simp [es]
    have HE := hide hE
    clear es h1 h2 hNa hE
    go_enter Try.func22, Try.ntmps22
    go_wp2_with fail
    refine (unhide SA).mono ?_
    rintro e w1 ⟨rfl, rfl⟩
    go_wp2_with fail
    go_ret2
    exact ⟨⟨_, _, rfl, .inl ⟨unhide ES, rfl, (unhide HE).symm⟩⟩, Below.refl _ _⟩
end Go.Proofs.Ytgobpoaalnpagaa
