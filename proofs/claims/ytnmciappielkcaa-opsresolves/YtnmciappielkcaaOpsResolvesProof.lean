import Derived.Test.YtnmciappielkcaaRows
import Derived.WalkKit
import Derived.ProofKit
import Derived.OpenShut
import Derived.Below
import Derived.Carry
import Derived.SizedLaws
import Derived.OpenShut
import Derived.Test.YtnmciappielkcaaV53
import Derived.Test.YtnmciappielkcaaV40
import Derived.Test.YtnmciappielkcaaV41
import Derived.Test.YtnmciappielkcaaV36
import Derived.Test.YtnmciappielkcaaV33

/- For all nodes: what the code's Resolve says is what the document says, also a third time, behind writing over the first answer; no condition. -/
namespace Go.Proofs.Ytnmciappielkcaa.opsResolves
open Go.ChangeShapes Go.WideShapes Go.ChangeAt Go.RowKit
set_option linter.unusedVariables false

theorem own : ownKnob Try.prog.godebug = none := by kernel_rfl
theorem laidOut : laidOutB Try.prog = true := by kernel_rfl

set_option maxRecDepth 100000 in
set_option linter.unusedSimpArgs false in
set_option maxHeartbeats 8000000 in
/-- The statement's call returns true, whatever came in. -/
theorem walk (N0 : NoA) (W : World) (s0 : NoIn W.heap.size W N0) (u0 : NoSz N0) :
    Calls Try.prog 3 #[.agg (noCells N0).toArray] W fun e W' => e = .returned (.bool true) ∧ Below W.heap.size W W' := by
  have CR := hide (fun v (hv : Below W.heap.size W v) => cresolve8_any N0 W.heap.size v (s0.below8 hv) u0.1)
  have CD := hide (fun v (hv : Below W.heap.size W v) => rresolve8_any N0 W.heap.size v (s0.below8 hv) u0.1)
  clear s0 u0
  obtain ⟨op, nm, ins, qi, ci, outs, qo, co, ats, qa, ca⟩ := N0
  simp only [noCells, strV] at CR CD ⊢
  obtain ⟨NA, hNA⟩ : ∃ n, ats.length = n := ⟨_, rfl⟩
  rw [hNA] at CR CD ⊢
  clear hNA
  obtain ⟨R, hR⟩ : ∃ R, resV (NoA.d ⟨op, nm, ins, qi, ci, outs, qo, co, ats, qa, ca⟩) = R := ⟨_, rfl⟩
  rw [hR] at CR CD
  clear hR
  obtain ⟨r1, r2, r3⟩ := R
  simp only at CR CD
  go_enter Try.func3, Try.ntmps3
  go_wp2_with fail
  refine (awake8_any _).mono ?_
  rintro e w1 ⟨rfl, hb⟩
  have X0 := hide (Box.below (Box.new W #[.string (strOfNums op), .string (strOfNums nm), .slice qi ins.length ci, .slice qo outs.length co, .slice qa NA ca] 25) hb)
  have B1 := hide (bl_tr (al1p _ _) hb)
  clear hb
  have x0 := (uh X0).cell
  have XL1 := hide (uh X0).lt
  go_wp2_with fail
  refine (uh CR _ (uh B1)).mono ?_
  rintro e w2 ⟨cs2, rfl, hs2, hb2⟩
  have HC2 := hide (And.intro hs2.1 (SeIn.ones hs2))
  have HS2 := hide hs2
  have HQ2 := hide (SeIn.inB hs2)
  have B2 := hide (bl_tr (uh B1) hb2)
  have L2 : Hid (w1.heap.size ≤ w2.heap.size) := hide hb2.size
  replace X0 := hide ((uh X0).below hb2)
  clear hs2 hb2 x0
  go_wp2_with (refine wpList_isStore 35 rfl ?_; refine wpList_store8 rfl _ _ rfl rfl rfl (Box.new _ _ _) (uh HC2).1 rfl (uh HC2).2 ?_; intro w3 b9 s9 z9; have Dw3 : Hid (Below w2.heap.size w2 w3) := hide (bl_tr7 (al1p _ _) s9.1); have Vw3 : Hid (Box w3 w2.heap.size cs2 35) := hide b9; have X3 := hide ((uh X0).below (uh Dw3)); have x3 := (uh X3).cell; clear b9 s9 z9)
  have B3 := hide (bl_tr (uh B2) (uh Dw3))
  refine (uh CR _ (uh B3)).mono ?_
  rintro e w4 ⟨cs4, rfl, hs4, hb4⟩
  have HC4 := hide (And.intro hs4.1 (SeIn.ones hs4))
  have HS4 := hide hs4
  have B4 := hide (bl_tr (uh B3) hb4)
  have L4 : Hid (w2.heap.size < w3.heap.size ∧ w3.heap.size ≤ w4.heap.size) := hide ⟨(uh Vw3).lt, hb4.size⟩
  have K4 := hide hb4
  have X4 := hide ((uh X3).below hb4)
  clear hs4 hb4 x3 X0 X3
  go_wp2_with (refine wpList_isStore 35 rfl ?_; refine wpList_store8 rfl _ _ rfl rfl rfl (Box.new _ _ _) (uh HC4).1 rfl (uh HC4).2 ?_; intro w5 b9 s9 z9; have Dw5 : Hid (Below w4.heap.size w4 w5) := hide (bl_tr7 (al1p _ _) s9.1); have Vw5 : Hid (Box w5 w4.heap.size cs4 35) := hide b9; have X5 := hide ((uh X4).below (uh Dw5)); have x5 := (uh X5).cell; clear b9 s9 z9)
  have B5 := hide (bl_tr (uh B4) (uh Dw5))
  refine (uh CD _ (uh B5)).mono ?_
  rintro e w6 ⟨cs6, rfl, hs6, hb6⟩
  have HC6 := hide (And.intro hs6.1 (SeIn.ones hs6))
  have HS6 := hide hs6
  have B6 := hide (bl_tr (uh B5) hb6)
  have L6 : Hid (w4.heap.size < w5.heap.size ∧ w5.heap.size ≤ w6.heap.size) := hide ⟨(uh Vw5).lt, hb6.size⟩
  have K6 := hide hb6
  have X6 := hide ((uh X5).below hb6)
  have t1 : (r1 != r1) = false := by simp
  have t3 : (r3 != r3) = false := by simp
  clear hs6 hb6 x5 X4 X5
  go_wp2_with (first | (refine wpList_isStore 35 rfl ?_; refine wpList_store8 rfl _ _ rfl rfl rfl (Box.new _ _ _) (uh HC6).1 rfl (uh HC6).2 ?_; intro w7 b9 s9 z9; have Dw7 : Hid (Below w6.heap.size w6 w7) := hide (bl_tr7 (al1p _ _) s9.1); have Vw7 : Hid (Box w7 w6.heap.size cs6 35) := hide b9; have E7 := hide (bl_tr (uh Dw5) (bl_tr (uh K6) (uh Dw7))); have F7 := hide (bl_tr (uh K4) (uh E7)); have P5 := hide ((uh Vw3).below (uh F7)); have P8 := hide ((uh Vw5).below (bl_tr (uh K6) (uh Dw7))); clear b9 s9 z9) | (refine wpList_isLoad 35 rfl ?_; refine wpList_load8g (by rfl) _ rfl rfl (uh P5) (uh HC2).1 ?_) | (refine wpList_isLoad 35 rfl ?_; refine wpList_load8g (by rfl) _ rfl rfl (uh Vw7) (uh HC6).1 ?_))
  have S2 := hide (((uh HS2).below (uh Dw3)).below (uh F7))
  have S4 := hide ((uh HS4).below (uh E7))
  have S6 := hide ((uh HS6).below (uh Dw7))
  have X7 := hide ((uh X6).below (uh Dw7))
  have B7 := hide (bl_tr (uh B6) (uh Dw7))
  refine (csame8_any _ (uh S2) (uh S6)).mono ?_
  rintro e w8 ⟨rfl, hb8⟩
  have B8 := hide (bl_tr (uh B7) hb8)
  have U2 := hide ((uh S2).below hb8)
  have U4 := hide ((uh S4).below hb8)
  have U6 := hide ((uh S6).below hb8)
  have X8 := hide ((uh X7).below hb8)
  have Q5 := hide ((uh P5).below hb8)
  have Q8 := hide ((uh P8).below hb8)
  have Q11 := hide ((uh Vw7).below hb8)
  have LW : Hid (W.heap.size < w1.heap.size) := hide (by have h1 := (uh XL1); omega)
  clear hb8 S2 S4 S6 X7 P5 P8 t1 t3 X6 Vw3 Vw5 Vw7 HS2 HS4 HS6
  obtain ⟨lo, hlo⟩ : ∃ x, w1.heap.size = x := ⟨_, rfl⟩
  obtain ⟨gs, hgs⟩ : ∃ x, w2.heap.size = x := ⟨_, rfl⟩
  obtain ⟨gt, hgt⟩ : ∃ x, w4.heap.size = x := ⟨_, rfl⟩
  obtain ⟨gw, hgw⟩ : ∃ x, w6.heap.size = x := ⟨_, rfl⟩
  rw [hgs, hgt, hgw]
  rw [hlo] at U2 HQ2 L2 LW
  rw [hgs] at HQ2 L2 L4 Q5
  rw [hgt] at L4 L6 Q8
  rw [hgw] at L6 Q11
  have HB4 : Hid (gs ≤ w3.heap.size ∧ gs ≤ w5.heap.size ∧ lo ≤ gs ∧ gs ≤ gt ∧ gs ≤ gw) := hide (by have := uh L2; have := uh L4; have := uh L6; omega)
  clear hlo hgs hgt hgw L2 L4 L6
  obtain ⟨p22, d22, l22, e22, o22⟩ := (uh U2).l8 (k := 22) (by decide) rfl
  obtain ⟨p7, d7, l7, e7, o7⟩ := (uh U2).l8 (k := 7) (by decide) rfl
  obtain ⟨T, A, ⟨e31, e32, e33, e34, e35⟩, tw, o32, o33, o34, o35⟩ := (uh U2).t8
  obtain ⟨ty, ds, fs, is, bs⟩ := T
  obtain ⟨pd, cd, pf, cf, pi, ci', pb, cb⟩ := A
  simp only at e31 e32 e33 e34 e35 o32 o33 o34
  have l22n : l22.length ≤ 9223372036854775807 := o22.1.ls.len
  have G22 := hide (fun n (hn : n < l22.length) => OwL.spo (lo := lo) (hi := gs) o22 (Nat.le_refl _) (fun b o e hp => (uh HQ2 22 b o _ _ (by rw [e22, e]) hp).2) hn)
  have l7n : l7.length ≤ 9223372036854775807 := o7.1.ls.len
  have G7 := hide (fun n (hn : n < l7.length) => OwL.spo (lo := lo) (hi := gs) o7 (Nat.le_refl _) (fun b o e hp => (uh HQ2 7 b o _ _ (by rw [e7, e]) hp).2) hn)
  have l33n : fs.length ≤ 9223372036854775807 := o33.1.ls.len
  have G33 := hide (fun n (hn : n < fs.length) => OwL.spo (lo := lo) (hi := gs) o33 (Nat.le_refl _) (fun b o e hp => (uh HQ2 33 b o _ _ (by rw [e33, e]) hp).2) hn)
  have l34n : is.length ≤ 9223372036854775807 := o34.1.ls.len
  have G34 := hide (fun n (hn : n < is.length) => OwL.spo (lo := lo) (hi := gs) o34 (Nat.le_refl _) (fun b o e hp => (uh HQ2 34 b o _ _ (by rw [e34, e]) hp).2) hn)
  have l32n : ds.length ≤ 9223372036854775807 := o32.1.ls.len
  have G32 := hide (fun n (hn : n < ds.length) => OwL.spo (lo := lo) (hi := gs) o32 (Nat.le_refl _) (fun b o e hp => (uh HQ2 32 b o _ _ (by rw [e32, e]) hp).2) hn)
  have LB22 : Hid (∀ b o, p22 = some ⟨b, o, none⟩ → ∀ {n : Nat}, n < l22.length → lo ≤ b) := hide (fun b o e n hn => (uh HQ2 22 b o _ _ (by rw [e22, e]) (by omega)).1)
  have LB7 : Hid (∀ b o, p7 = some ⟨b, o, none⟩ → ∀ {n : Nat}, n < l7.length → lo ≤ b) := hide (fun b o e n hn => (uh HQ2 7 b o _ _ (by rw [e7, e]) (by omega)).1)
  have LB33 : Hid (∀ b o, pf = some ⟨b, o, none⟩ → ∀ {n : Nat}, n < fs.length → lo ≤ b) := hide (fun b o e n hn => (uh HQ2 33 b o _ _ (by rw [e33, e]) (by omega)).1)
  have LB34 : Hid (∀ b o, pi = some ⟨b, o, none⟩ → ∀ {n : Nat}, n < is.length → lo ≤ b) := hide (fun b o e n hn => (uh HQ2 34 b o _ _ (by rw [e34, e]) (by omega)).1)
  have LB32 : Hid (∀ b o, pd = some ⟨b, o, none⟩ → ∀ {n : Nat}, n < ds.length → lo ≤ b) := hide (fun b o e n hn => (uh HQ2 32 b o _ _ (by rw [e32, e]) (by omega)).1)
  have CE := hide (fun v (hv : Box v gs cs2 35) => And.intro ((hv.cell 22).trans e22) (And.intro ((hv.cell 7).trans e7) (And.intro ((hv.cell 33).trans e33) (And.intro ((hv.cell 34).trans e34) ((hv.cell 32).trans e32)))))
  clear e22 e7 e31 e32 e33 e34 e35 o22 o7 o32 o33 o34 o35 tw HQ2
  go_wp2_with fail
  go_loopw [13] (fun iv wr => ∃ n : Nat, iv = .int .i64 n ∧ n ≤ l22.length ∧ Hid (Spo lo gs w8 wr) ∧ Hid (Below W.heap.size W wr)) (fun iv _ => l22.length - (intOf iv).toNat)
  case atStart => exact ⟨0, rfl, Nat.zero_le _, hide (Spo.refl _ _ _), B8⟩
  case round =>
    obtain ⟨n, rfl, hn, SP, BW⟩ := hrel
    have QR := hide ((uh SP).box (uh Q5) (.inr (Nat.le_refl _)))
    have ce := (uh CE _ (uh QR)).1
    have gl := (uh QR).lt
    by_cases hlt : n < l22.length
    · have hi1 : (n : Int) < (l22.length : Int) := by omega
      obtain ⟨b, o, hp, hb, hF⟩ := uh G22 n hlt
      subst hp
      obtain ⟨⟨y, ky, wy, fy⟩, hset⟩ := hF wr (uh SP)
      have hbw : b < wr.heap.size := (uh SP).lt hb
      have HST := hide (hset (-9) rfl)
      have HBL : Hid (W.heap.size ≤ b) := hide (by have := uh LB22 b o rfl hlt; have := uh LW; omega)
      clear hset hF wy
      go_wp2_with fail
      go_roundw
      case rel => exact ⟨n + 1, by go_num, by omega, HST, hide (Below.setCell (uh BW) (uh HBL) _)⟩
      case measure => simp [intOf]; omega
    · have hi1 : ¬ (n : Int) < (l22.length : Int) := by omega
      clear hlt hn
      go_wp2_with fail
      go_loopw [14] (fun iv wr => ∃ n : Nat, iv = .int .i64 n ∧ n ≤ l7.length ∧ Hid (Spo lo gs w8 wr) ∧ Hid (Below W.heap.size W wr)) (fun iv _ => l7.length - (intOf iv).toNat)
      case atStart => exact ⟨0, rfl, Nat.zero_le _, SP, BW⟩
      case round =>
        obtain ⟨n, rfl, hn, SP, BW⟩ := hrel
        have QR := hide ((uh SP).box (uh Q5) (.inr (Nat.le_refl _)))
        have ce := (uh CE _ (uh QR)).2.1
        have gl := (uh QR).lt
        by_cases hlt : n < l7.length
        · have hi1 : (n : Int) < (l7.length : Int) := by omega
          obtain ⟨b, o, hp, hb, hF⟩ := uh G7 n hlt
          subst hp
          obtain ⟨⟨y, ky, wy, fy⟩, hset⟩ := hF wr (uh SP)
          have hbw : b < wr.heap.size := (uh SP).lt hb
          have HST := hide (hset (-9) rfl)
          have HBL : Hid (W.heap.size ≤ b) := hide (by have := uh LB7 b o rfl hlt; have := uh LW; omega)
          clear hset hF wy
          go_wp2_with fail
          go_roundw
          case rel => exact ⟨n + 1, by go_num, by omega, HST, hide (Below.setCell (uh BW) (uh HBL) _)⟩
          case measure => simp [intOf]; omega
        · have hi1 : ¬ (n : Int) < (l7.length : Int) := by omega
          clear hlt hn
          go_wp2_with fail
          go_loopw [15] (fun iv wr => ∃ n : Nat, iv = .int .i64 n ∧ n ≤ fs.length ∧ Hid (Spo lo gs w8 wr) ∧ Hid (Below W.heap.size W wr)) (fun iv _ => fs.length - (intOf iv).toNat)
          case atStart => exact ⟨0, rfl, Nat.zero_le _, SP, BW⟩
          case round =>
            obtain ⟨n, rfl, hn, SP, BW⟩ := hrel
            have QR := hide ((uh SP).box (uh Q5) (.inr (Nat.le_refl _)))
            have ce := (uh CE _ (uh QR)).2.2.1
            have gl := (uh QR).lt
            by_cases hlt : n < fs.length
            · have hi1 : (n : Int) < (fs.length : Int) := by omega
              obtain ⟨b, o, hp, hb, hF⟩ := uh G33 n hlt
              subst hp
              obtain ⟨⟨y, ky, wy, fy⟩, hset⟩ := hF wr.drew (uh SP)
              have ky2 : wr.cell? ⟨b, o + n, none⟩ = some (.int .u32 y) := ky
              have fy2 : wr.frozen? ⟨b, o + n, none⟩ = false := fy
              have hbw : b < wr.heap.size := (uh SP).lt hb
              have HST := hide hset
              have HWY := hide wy
              have HBL : Hid (W.heap.size ≤ b) := hide (by have := uh LB33 b o rfl hlt; have := uh LW; omega)
              clear hset hF wy ky fy
              go_wp2_with fail
              go_region
              go_wp2_with fail
              go_roundw
              case rel => exact ⟨n + 1, by go_num, by omega, hide (uh HST _ (wf_bits _ _ _ _)), hide (Below.setCell (bl_tr (uh BW) (bdrew8 _)) (uh HBL) _)⟩
              case measure => simp [intOf]; omega
            · have hi1 : ¬ (n : Int) < (fs.length : Int) := by omega
              clear hlt hn
              go_wp2_with fail
              go_loopw [16] (fun iv wr => ∃ n : Nat, iv = .int .i64 n ∧ n ≤ is.length ∧ Hid (Spo lo gs w8 wr) ∧ Hid (Below W.heap.size W wr)) (fun iv _ => is.length - (intOf iv).toNat)
              case atStart => exact ⟨0, rfl, Nat.zero_le _, SP, BW⟩
              case round =>
                obtain ⟨n, rfl, hn, SP, BW⟩ := hrel
                have QR := hide ((uh SP).box (uh Q5) (.inr (Nat.le_refl _)))
                have ce := (uh CE _ (uh QR)).2.2.2.1
                have gl := (uh QR).lt
                by_cases hlt : n < is.length
                · have hi1 : (n : Int) < (is.length : Int) := by omega
                  obtain ⟨b, o, hp, hb, hF⟩ := uh G34 n hlt
                  subst hp
                  obtain ⟨⟨y, ky, wy, fy⟩, hset⟩ := hF wr.drew (uh SP)
                  have ky2 : wr.cell? ⟨b, o + n, none⟩ = some (.int .i64 y) := ky
                  have fy2 : wr.frozen? ⟨b, o + n, none⟩ = false := fy
                  have hbw : b < wr.heap.size := (uh SP).lt hb
                  have HST := hide hset
                  have HWY := hide wy
                  have HBL : Hid (W.heap.size ≤ b) := hide (by have := uh LB34 b o rfl hlt; have := uh LW; omega)
                  clear hset hF wy ky fy
                  go_wp2_with fail
                  go_region
                  go_wp2_with fail
                  go_roundw
                  case rel => exact ⟨n + 1, by go_num, by omega, hide (uh HST _ (wf_bits _ _ _ _)), hide (Below.setCell (bl_tr (uh BW) (bdrew8 _)) (uh HBL) _)⟩
                  case measure => simp [intOf]; omega
                · have hi1 : ¬ (n : Int) < (is.length : Int) := by omega
                  clear hlt hn
                  go_wp2_with fail
                  go_loopw [17] (fun iv wr => ∃ n : Nat, iv = .int .i64 n ∧ n ≤ ds.length ∧ Hid (Spo lo gs w8 wr) ∧ Hid (Below W.heap.size W wr)) (fun iv _ => ds.length - (intOf iv).toNat)
                  case atStart => exact ⟨0, rfl, Nat.zero_le _, SP, BW⟩
                  case round =>
                    obtain ⟨n, rfl, hn, SP, BW⟩ := hrel
                    have QR := hide ((uh SP).box (uh Q5) (.inr (Nat.le_refl _)))
                    have ce := (uh CE _ (uh QR)).2.2.2.2
                    have gl := (uh QR).lt
                    by_cases hlt : n < ds.length
                    · have hi1 : (n : Int) < (ds.length : Int) := by omega
                      obtain ⟨b, o, hp, hb, hF⟩ := uh G32 n hlt
                      subst hp
                      obtain ⟨⟨y, ky, wy, fy⟩, hset⟩ := hF wr (uh SP)
                      have hbw : b < wr.heap.size := (uh SP).lt hb
                      have HST := hide (hset (-9) rfl)
                      have HBL : Hid (W.heap.size ≤ b) := hide (by have := uh LB32 b o rfl hlt; have := uh LW; omega)
                      clear hset hF wy
                      go_wp2_with fail
                      go_roundw
                      case rel => exact ⟨n + 1, by go_num, by omega, HST, hide (Below.setCell (uh BW) (uh HBL) _)⟩
                      case measure => simp [intOf]; omega
                    · have hi1 : ¬ (n : Int) < (ds.length : Int) := by omega
                      clear hlt hn
                      have XN := hide ((uh SP).box (uh X8) (.inl (by have := uh LW; omega)))
                      have xn := (uh XN).cell
                      have xl := (uh XN).lt
                      have M8 := hide ((uh SP).box (uh Q8) (.inr (by have := uh HB4; omega)))
                      have M11 := hide ((uh SP).box (uh Q11) (.inr (by have := uh HB4; omega)))
                      have T4 := hide ((uh U4).spo (uh SP) (uh HB4).1)
                      have T6 := hide ((uh U6).spo (uh SP) (uh HB4).2.1)

                      go_wp2_with fail
                      refine (uh CR _ (uh BW)).mono ?_
                      rintro e w10 ⟨cs10, rfl, hs10, hb10⟩
                      have HC10 := hide (And.intro hs10.1 (SeIn.ones hs10))
                      have HS10 := hide hs10
                      have K10 := hide hb10
                      clear hs10 hb10 xn xl
                      go_wp2_with (first | (refine wpList_isStore 35 rfl ?_; refine wpList_store8 rfl _ _ rfl rfl rfl (Box.new _ _ _) (uh HC10).1 rfl (uh HC10).2 ?_; intro w11 b9 s9 z9; have Dw11 : Hid (Below w10.heap.size w10 w11) := hide (bl_tr7 (al1p _ _) s9.1); have Vw11 : Hid (Box w11 w10.heap.size cs10 35) := hide b9; have E11 := hide (bl_tr (uh K10) (uh Dw11)); have N8 := hide ((uh M8).below (uh E11)); have N11 := hide ((uh M11).below (uh E11)); clear b9 s9 z9) | (refine wpList_isLoad 35 rfl ?_; refine wpList_load8 rfl _ rfl rfl (uh N8) (uh HC4).1 ?_) | (refine wpList_isLoad 35 rfl ?_; refine wpList_load8 rfl _ rfl rfl (uh N11) (uh HC6).1 ?_))
                      refine (csame8_any _ ((uh T4).below (uh E11)) ((uh T6).below (uh E11))).mono ?_
                      rintro e w12 ⟨rfl, hb12⟩
                      have J19 := hide ((uh Vw11).below hb12)
                      have J11 := hide ((uh N11).below hb12)
                      have B12 := hide (bl_tr (bl_tr (uh BW) (uh E11)) hb12)
                      have Y10 := hide (((uh HS10).below (uh Dw11)).below hb12)
                      have Y6 := hide (((uh T6).below (uh E11)).below hb12)
                      clear hb12
                      go_wp2_with (first | (refine wpList_isLoad 35 rfl ?_; refine wpList_load8g (by rfl) _ rfl rfl (uh J19) (uh HC10).1 ?_) | (refine wpList_isLoad 35 rfl ?_; refine wpList_load8g (by rfl) _ rfl rfl (uh J11) (uh HC6).1 ?_))
                      refine (csame8_any _ (uh Y10) (uh Y6)).mono ?_
                      rintro e w13 ⟨rfl, hb13⟩
                      have B13 := hide (bl_tr (uh B12) hb13)
                      clear hb13
                      go_wp2_with fail
                      go_ret
                      exact ⟨rfl, uh B13⟩

set_option maxRecDepth 100000 in
theorem contract (H : Type) (enc : TypeId × Value → H) (W : World) (base : Nat) (args : Array Value) (ds gs : List (DataW H)) (before : List MemPlace)
    (hval0 : ∀ (j : Nat) t v, Try.f3.params[j]? = some t → args[j]? = some v → Value.okWide Try.prog W .any base t v)
    (hW : DataW.Whole enc Try.prog Try.f3.params.toList Rows.opsResolvesSpec.vars false W args.toList ds gs before) (hsz0 : (DataW.weightsEach Try.prog (Try.f3.params.toList ++ Rows.opsResolvesSpec.plain.varTypes Try.prog) (ds ++ gs)).all (· ≤ reachBytes) = true) :
    Calls Try.prog 3 args W fun e W' => ∃ v, e = .returned v ∧ Rows.opsResolvesSpec.post enc Try.prog Try.f3 false true false false W args v W' := by
  have hval : ∀ (j : Nat) t v, Try.f3.params[j]? = some t → args[j]? = some v → Value.okWide Try.prog W .any base t v := hval0
  have hW' := hW
  obtain ⟨p, q, hA0, hV, rfl, hfz, hnd⟩ := hW
  have hA : DataW.TrodAll enc Try.prog W 0 (fun _ => true) true Try.f3.params.toList args.toList ds p := hA0
  have hsz : (DataW.weightsEach Try.prog (Try.f3.params.toList ++ Rows.opsResolvesSpec.plain.varTypes Try.prog) (ds ++ gs)).all (· ≤ reachBytes) = true := hsz0
  clear hsz0
  rw [Try.params3] at hA hval hsz
  obtain ⟨v0, vs0, d0, ds0, pl0, q0, hargs, rfl, rfl, h0, r0⟩ := trodAll_cons hA
  obtain ⟨rfl, rfl, rfl⟩ := trodAll_nil r0
  obtain rfl : args = #[v0] := by cases args; simp_all
  obtain ⟨rfl, rfl⟩ := trodVars_none hV
  have h0k := h0
  obtain ⟨N0, rfl, s0, g0⟩ := no8_open (hval 0 25 v0 rfl rfl) h0
  have hlt0 : ∀ y ∈ pl0, y.block < W.heap.size := fun y hy => hW'.lt y (by simp [hy])
  have u0 : NoSz N0 := g0 (fun m hm => by have h9 := List.all_eq_true.1 hsz m (DataW.weights_mem_each (j := 0) rfl rfl m hm); simpa using h9)
  clear hA0 hval0
  simp only [List.append_nil] at hW'
  refine (walk N0 W s0 u0).mono fun e W' ⟨he, bel⟩ => ?_
  subst he
  exact ⟨_, rfl, _, _, _, [], _, [], hW', trodAll_mk1 (shut_bool Try.underlying4 _), (trodAll_cons_mk (Below.trod laidOut (by kernel_rfl) (of_decide_eq_true (by kernel_rfl)) h0k bel hlt0) trodAll_mk0), rfl, bel.frame _, fun h => by cases h⟩

set_option maxRecDepth 100000 in
theorem lifted (os : Os) (started : os.Started) (H : Type) (enc : TypeId × Value → H) :
    ReturnsInHanded {} Try.checked os 3 .any (Rows.opsResolvesSpec.pre6 enc Try.prog Try.f3 Rows.opsResolvesRow.domain false) (Rows.opsResolvesSpec.post enc Try.prog Try.f3 false true false false) := by
  refine returnsInHanded_of_change_sized (C := Try.checked) own started (by kernel_rfl) Try.func3
    (ChangeSpec.witness6 (enc := enc) (C := Try.checked) false ⟨#[], #[.agg #[.string { data := #[] }, .string { data := #[] }, .slice none 0 0, .slice none 0 0, .slice none 0 0]], []⟩ 8 (by kernel_rfl) (by kernel_rfl) (by kernel_rfl) (by kernel_rfl)) ?_
  intro W base args ds gs before hval hW hcnd hsz _
  exact contract H enc W base args ds gs before hval hW hsz

theorem proved : Rows.OpsResolvesSaid :=
  OpenClaim.holds_of_wide 3 Try.f3 rfl rfl rfl rfl rfl rfl rfl ⟨rfl, rfl, rfl, rfl, rfl⟩ rfl rfl rfl rfl rfl (by kernel_rfl) Try.func3 (by kernel_rfl)
    (of_decide_eq_true (by kernel_rfl)) (by unfold Func.isWrapper; first | (rw [if_pos (by decide +kernel)]; kernel_rfl) | (rw [if_neg (by decide +kernel)]; exact ⟨rfl, rfl⟩))
    (fun os started H enc _ => lifted os started H enc)
#print axioms proved
end Go.Proofs.Ytnmciappielkcaa.opsResolves
