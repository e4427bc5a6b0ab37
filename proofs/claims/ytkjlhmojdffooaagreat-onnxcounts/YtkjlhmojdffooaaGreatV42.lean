import Derived.Test.YtkjlhmojdffooaaGreatV03
import Derived.Test.YtkjlhmojdffooaaGreatV33
import Derived.Test.YtkjlhmojdffooaaGreatV41

/-
  Layer 7: a tensor's elements, as the code brings them together.
-/
namespace Go.Proofs.YtkjlhmojdffooaaGreat
open Go.RowKit
set_option linter.unusedVariables false

set_option maxRecDepth 100000 in
set_option maxHeartbeats 8000000 in
theorem ctenBr_any (qf : Option Addr) (cf : Nat) (qs : Option Addr) (cs : Nat) (qn : Option Addr) (cn : Nat) (qr : Option Addr) (cr : Nat) (rw : List Int) (N : Nat) (w : World) (hr : Ints .u8 w qr cr rw) (hl : rw.length = N * 1) (hN : N ≤ 4096) :
    Calls Tryz.prog 185 #[.agg #[.slice qf 0 cf, .slice qs 0 cs, .slice qn 0 cn, .slice qr rw.length cr, .bool true], .int .i64 9, .int .i64 N] w fun e w' => ∃ q d, e = .returned (.tuple #[.agg #[.int .i64 9, .slice none 0 0, .slice none 0 0, .slice none 0 0, .slice q (trV ((List.range N).map (fun i => (i64w) (atP 1 rw i)))).length d], .bool (truthsOK ((List.range N).map (fun i => (i64w) (atP 1 rw i))))]) ∧ Hid (w'.ownsRow w.heap.size 4 1 (.slice q (trV ((List.range N).map (fun i => (i64w) (atP 1 rw i)))).length d) (trV ((List.range N).map (fun i => (i64w) (atP 1 rw i)))).length ((trV ((List.range N).map (fun i => (i64w) (atP 1 rw i)))).map Value.bool) ∧ Below w.heap.size w w') := by
  have CL := hide (fun v => clisted_any qf 0 cf qs 0 cs qn 0 cn qr rw.length cr true v (by omega) (by omega) (by omega))
  have CK := hide (fun v => cwidth_any 9 v)
  rw [show widthV 9 = 1 from rfl] at CK
  have CU := hide (fun v (hv : Below w.heap.size w v) => ccutB_any qr cr rw N v (hr.below hv) hl (by omega))
  have hw : IntKind.i64.wrap ((N : Int) * 1) = (N : Int) * 1 := by rw [IntKind.wrap_i64]; omega
  have c1 : ((rw.length : Int) != (N : Int) * 1) = false := by simp; omega
  have hrl : rw.length ≤ 100000 := by omega
  generalize rw.length = nr at CL CU c1 hrl ⊢
  clear hr hl
  have hll : ((List.range N).map (fun i => (i64w) (atP 1 rw i))).length = N := by rw [List.length_map, List.length_range]
  have HLL := hide hll
  clear hll
  generalize (List.range N).map (fun i => (i64w) (atP 1 rw i)) = YS at CU HLL ⊢
  have HT : Hid (trV YS = if truthsOK YS = true then YS.map (· == 1) else []) := hide rfl
  cases hok : truthsOK YS with
  | false =>
    have HOK := hide hok
    rw [hok, if_neg (by decide)] at HT
    rw [unhide HT]
    have HL : Hid (([] : List Bool).length = 0) := hide rfl
    clear hok
    have B0 := hide (al2p w (Obj.cells #[.slice qf 0 cf, .slice qs 0 cs, .slice qn 0 cn, .slice qr nr cr, .bool true] 228) (Obj.cells #[.int .i64 0, .slice none 0 0, .slice none 0 0, .slice none 0 0, .slice none 0 0] 80))
    have XS := hide ((Box.new w #[.slice qf 0 cf, .slice qs 0 cs, .slice qn 0 cn, .slice qr nr cr, .bool true] 228).alloc (Obj.cells #[.int .i64 0, .slice none 0 0, .slice none 0 0, .slice none 0 0, .slice none 0 0] 80))
    have XR : Hid (Box ((w.alloc (Obj.cells #[.slice qf 0 cf, .slice qs 0 cs, .slice qn 0 cn, .slice qr nr cr, .bool true] 228)).alloc (Obj.cells #[.int .i64 0, .slice none 0 0, .slice none 0 0, .slice none 0 0, .slice none 0 0] 80)) (w.heap.size + 1) #[.int .i64 0, .slice none 0 0, .slice none 0 0, .slice none 0 0, .slice none 0 0] 80) := hide (by have h := Box.new (w.alloc (Obj.cells #[.slice qf 0 cf, .slice qs 0 cs, .slice qn 0 cn, .slice qr nr cr, .bool true] 228)) #[.int .i64 0, .slice none 0 0, .slice none 0 0, .slice none 0 0, .slice none 0 0] 80; rw [alloc_size6] at h; exact h)
    go_enter Tryz.func185, Tryz.ntmps185
    go_wp2_with fail
    generalize (w.alloc (Obj.cells #[.slice qf 0 cf, .slice qs 0 cs, .slice qn 0 cn, .slice qr nr cr, .bool true] 228)).alloc (Obj.cells #[.int .i64 0, .slice none 0 0, .slice none 0 0, .slice none 0 0, .slice none 0 0] 80) = W at B0 XS XR ⊢
    refine wp_region_below (by kernel_rfl) (by kernel_rfl) ?_
    intro TT f hne hfb hfc
    have xs : ∀ x j, (f x).cell? ⟨w.heap.size, j, none⟩ = (#[.slice qf 0 cf, .slice qs 0 cs, .slice qn 0 cn, .slice qr nr cr, .bool true] : Array Value)[j]? := fun x => ((unhide XS).below (hfb x)).cell
    have HFB := hide hfb
    have HFC := hide hfc
    clear hfb hfc
    repeat (go_big_quiet_step (first | (go_at_call 235; exact calls_qb (unhide HFB) (unhide HFC) (unhide CL _)) | (go_at_call 138; exact calls_qs (unhide CK _))))
    refine wpQuiet_nil ?_
    intro x
    have B1 := hide (bl_tr (unhide B0) (unhide HFB x))
    have XS1 := hide ((unhide XS).below (unhide HFB x))
    have XR1 := hide ((unhide XR).below (unhide HFB x))
    have ys := (unhide XS1).cell
    have yr := (unhide XR1).cell
    have gr := (unhide XR1).frozen
    clear xs
    generalize f x = w1 at B1 XS1 XR1 ys yr gr ⊢
    go_wp2_with fail
    refine (unhide CU _ (unhide B1)).mono ?_
    rintro e w2 ⟨q1, d1, rfl, hq⟩
    obtain ⟨hO, hb⟩ := unhide hq
    have OR2 := hide hO
    have B2 := hide (bl_tr (unhide B1) hb)
    have XS2 := hide ((unhide XS1).below hb)
    have XR2 := hide ((unhide XR1).below hb)
    have x2 := (unhide XS2).cell
    have f2 := (unhide XS2).frozen
    have lw : w.heap.size < w1.heap.size := (unhide XS1).lt
    have lw1 : w.heap.size + 1 < w1.heap.size := (unhide XR1).lt
    have lw2 : w1.heap.size ≤ w2.heap.size := hb.size
    clear hq hO hb ys yr gr B0 XS XR B1 XS1 XR1
    have Bs := hide (bset5 (unhide B2) (Nat.le_refl w.heap.size) (.slice none 0 0) (.slice q1 N d1) (.slice none 0 0) (.slice none 0 0) (.bool false))
    have XSs := hide ((unhide XS2).set5 (.slice none 0 0) (.slice q1 N d1) (.slice none 0 0) (.slice none 0 0) (.bool false))
    have XRs := hide ((unhide XR2).off5 (show w.heap.size + 1 ≠ w.heap.size by omega) (.slice none 0 0) (.slice q1 N d1) (.slice none 0 0) (.slice none 0 0) (.bool false))
    have ORs := hide (ownsRow_set5 (unhide OR2) lw (.slice none 0 0) (.slice q1 N d1) (.slice none 0 0) (.slice none 0 0) (.bool false))
    have hsz : (((((w2.setCell ⟨w.heap.size, 0, none⟩ (.slice none 0 0)).setCell ⟨w.heap.size, 1, none⟩ (.slice q1 N d1)).setCell ⟨w.heap.size, 2, none⟩ (.slice none 0 0)).setCell ⟨w.heap.size, 3, none⟩ (.slice none 0 0)).setCell ⟨w.heap.size, 4, none⟩ (.bool false)).heap.size = w2.heap.size := by simp [World.setCell]
    have B3 := hide (bl_tr (unhide Bs) (al1p _ (Obj.cells #[.int .i64 9, .slice none 0 0, .slice none 0 0, .slice none 0 0, .slice none 0 0] 80)))
    have XS3 := hide ((unhide XSs).alloc (Obj.cells #[.int .i64 9, .slice none 0 0, .slice none 0 0, .slice none 0 0, .slice none 0 0] 80))
    have XR3 := hide ((unhide XRs).alloc (Obj.cells #[.int .i64 9, .slice none 0 0, .slice none 0 0, .slice none 0 0, .slice none 0 0] 80))
    have OR3 := hide (ownsRow_bel (unhide ORs) (by omega) (al1p _ (Obj.cells #[.int .i64 9, .slice none 0 0, .slice none 0 0, .slice none 0 0, .slice none 0 0] 80)))
    have XT3 : Hid (Box ((((((w2.setCell ⟨w.heap.size, 0, none⟩ (.slice none 0 0)).setCell ⟨w.heap.size, 1, none⟩ (.slice q1 N d1)).setCell ⟨w.heap.size, 2, none⟩ (.slice none 0 0)).setCell ⟨w.heap.size, 3, none⟩ (.slice none 0 0)).setCell ⟨w.heap.size, 4, none⟩ (.bool false)).alloc (Obj.cells #[.int .i64 9, .slice none 0 0, .slice none 0 0, .slice none 0 0, .slice none 0 0] 80)) w2.heap.size #[.int .i64 9, .slice none 0 0, .slice none 0 0, .slice none 0 0, .slice none 0 0] 80) := hide (by have h := Box.new (((((w2.setCell ⟨w.heap.size, 0, none⟩ (.slice none 0 0)).setCell ⟨w.heap.size, 1, none⟩ (.slice q1 N d1)).setCell ⟨w.heap.size, 2, none⟩ (.slice none 0 0)).setCell ⟨w.heap.size, 3, none⟩ (.slice none 0 0)).setCell ⟨w.heap.size, 4, none⟩ (.bool false)) #[.int .i64 9, .slice none 0 0, .slice none 0 0, .slice none 0 0, .slice none 0 0] 80; rw [hsz] at h; exact h)
    have lx := (unhide XS2).lt
    have lx1 := (unhide XR2).lt
    have fx := (unhide XSs).cell
    have LW := hide (And.intro lw (And.intro lw1 lw2))
    clear B2 XS2 XR2 OR2 Bs XSs XRs ORs hsz hw c1 hrl CK CL CU lw lw1 lw2
    go_wp2_with fail
    generalize (((((w2.setCell ⟨w.heap.size, 0, none⟩ (.slice none 0 0)).setCell ⟨w.heap.size, 1, none⟩ (.slice q1 N d1)).setCell ⟨w.heap.size, 2, none⟩ (.slice none 0 0)).setCell ⟨w.heap.size, 3, none⟩ (.slice none 0 0)).setCell ⟨w.heap.size, 4, none⟩ (.bool false)).alloc (Obj.cells #[.int .i64 9, .slice none 0 0, .slice none 0 0, .slice none 0 0, .slice none 0 0] 80) = W at B3 XS3 XR3 XT3 OR3 ⊢
    have hne : w2.heap.size ≠ w.heap.size + 1 := by omega
    have LY : Hid (Ls (Value.int .i64) W q1 d1 YS) := hide (by
      have OG : OwnG 2 (Value.int .i64) w W (.slice q1 N d1) YS := ⟨own_len (ownsRow_base (unhide OR3) (Nat.le_of_lt (unhide LW).1)) (unhide HLL).symm rfl, unhide B3⟩
      obtain ⟨p, cap, e, hL, _⟩ := OG.form
      simp only [Value.slice.injEq] at e
      obtain ⟨rfl, _, rfl⟩ := e
      exact hL)
    have CT := hide (ctruths_any q1 d1 YS W (unhide LY) (by rw [unhide HLL]; omega))
    rw [unhide HLL, unhide HOK] at CT
    rw [if_neg (by decide)] at CT
    refine (unhide CT).mono ?_
    rintro e w4 ⟨v, rfl, hO⟩
    obtain ⟨q4, d4, hq, _, _⟩ := hO.form
    subst hq
    rw [unhide HL] at hO
    rw [unhide HL]
    have OR4 := hide hO.1
    have B4 := hide (bl_tr (unhide B3) hO.2)
    have XS4 := hide ((unhide XS3).below hO.2)
    have XR4 := hide ((unhide XR3).below hO.2)
    have XT4 := hide ((unhide XT3).below hO.2)
    have x4 := (unhide XT4).cell
    have f4 := (unhide XT4).frozen
    have l4 : w2.heap.size < W.heap.size := (unhide XT3).lt
    clear hO CT LY fx
    have XT5 : Hid (Box (w4.setCell ⟨w2.heap.size, 4, none⟩ (.slice q4 0 d4)) w2.heap.size #[.int .i64 9, .slice none 0 0, .slice none 0 0, .slice none 0 0, .slice q4 0 d4] 80) := hide ((unhide XT4).same 4 (.slice q4 0 d4))
    have XS5 := hide ((unhide XS4).other (show w.heap.size ≠ w2.heap.size by omega) 4 (.slice q4 0 d4))
    have XR5 := hide ((unhide XR4).other (show w.heap.size + 1 ≠ w2.heap.size by omega) 4 (.slice q4 0 d4))
    have B5' := hide ((unhide B4).setCell (p := ⟨w2.heap.size, 4, none⟩) (show w.heap.size ≤ w2.heap.size by omega) (.slice q4 0 d4))
    have OR5' := hide (ownsRow_stay (unhide OR4) l4 (Stay.set w2.heap.size w4 4 (.slice q4 0 d4)))
    have x5 := (unhide XT5).cell
    have LV := hide (And.intro l4 (And.intro lx lx1))
    clear XS4 XR4 XT4 B4 OR4 l4 XS3 XR3 XT3 B3 OR3
    go_wp2_with fail
    clear x4 f4
    generalize w4.setCell ⟨w2.heap.size, 4, none⟩ (.slice q4 0 d4) = W' at B5' XS5 XR5 XT5 OR5' x5 ⊢
    have CL := hide (fun v => clisted_any none 0 0 q1 N d1 none 0 0 none 0 0 false v (by omega) (by omega) (by omega))
    have c3 : ((N : Int) == (N : Int)) = true := by simp
    have B0 := B5'
    have XS := XS5
    have XR := XR5
    have XT := XT5
    have xs := (unhide XS).cell
    have xt := (unhide XT).cell
    have xr := (unhide XR).cell
    have fr := (unhide XR).frozen
    have xsd := ((unhide XS).below (bdrewp W')).cell
    have xtd := ((unhide XT).below (bdrewp W')).cell
    have xrd := ((unhide XR).below (bdrewp W')).cell
    have frd := ((unhide XR).below (bdrewp W')).frozen
    go_region
    go_wp2_with fail
    have Y5 := hide (((unhide XR).set5 (.int .i64 9) (.slice none 0 0) (.slice none 0 0) (.slice none 0 0) (.slice q4 0 d4)).below (bdrewp _))
    have B5 := hide (bl_tr (bset5 (unhide B0) (show w.heap.size ≤ w.heap.size + 1 by omega) (.int .i64 9) (.slice none 0 0) (.slice none 0 0) (.slice none 0 0) (.slice q4 0 d4)) (bdrewp _))
    have OR9 := hide (ownsRow_base (ownsRow_bel (ownsRow_set5 (unhide OR5') (show w.heap.size + 1 < W.heap.size by have := (unhide LV); omega) (.int .i64 9) (.slice none 0 0) (.slice none 0 0) (.slice none 0 0) (.slice q4 0 d4)) (by have := (unhide LV); omega) (bdrewp _)) (show w.heap.size ≤ W.heap.size by have := (unhide LV); omega))
    refine bodyPost_ret ?_ rfl ⟨q4, d4, rfl, hide ⟨own_len (unhide OR9) (unhide HL) rfl, unhide B5⟩⟩
    simp [results, Tryz.results185, go_sem, (unhide Y5).cell]
  | true =>
    have HOK := hide hok
    rw [hok, if_pos rfl] at HT
    rw [unhide HT]
    have HL : Hid ((YS.map (· == 1)).length = N) := hide (by rw [List.length_map]; exact unhide HLL)
    rw [unhide HL]
    clear hok
    have B0 := hide (al2p w (Obj.cells #[.slice qf 0 cf, .slice qs 0 cs, .slice qn 0 cn, .slice qr nr cr, .bool true] 228) (Obj.cells #[.int .i64 0, .slice none 0 0, .slice none 0 0, .slice none 0 0, .slice none 0 0] 80))
    have XS := hide ((Box.new w #[.slice qf 0 cf, .slice qs 0 cs, .slice qn 0 cn, .slice qr nr cr, .bool true] 228).alloc (Obj.cells #[.int .i64 0, .slice none 0 0, .slice none 0 0, .slice none 0 0, .slice none 0 0] 80))
    have XR : Hid (Box ((w.alloc (Obj.cells #[.slice qf 0 cf, .slice qs 0 cs, .slice qn 0 cn, .slice qr nr cr, .bool true] 228)).alloc (Obj.cells #[.int .i64 0, .slice none 0 0, .slice none 0 0, .slice none 0 0, .slice none 0 0] 80)) (w.heap.size + 1) #[.int .i64 0, .slice none 0 0, .slice none 0 0, .slice none 0 0, .slice none 0 0] 80) := hide (by have h := Box.new (w.alloc (Obj.cells #[.slice qf 0 cf, .slice qs 0 cs, .slice qn 0 cn, .slice qr nr cr, .bool true] 228)) #[.int .i64 0, .slice none 0 0, .slice none 0 0, .slice none 0 0, .slice none 0 0] 80; rw [alloc_size6] at h; exact h)
    go_enter Tryz.func185, Tryz.ntmps185
    go_wp2_with fail
    generalize (w.alloc (Obj.cells #[.slice qf 0 cf, .slice qs 0 cs, .slice qn 0 cn, .slice qr nr cr, .bool true] 228)).alloc (Obj.cells #[.int .i64 0, .slice none 0 0, .slice none 0 0, .slice none 0 0, .slice none 0 0] 80) = W at B0 XS XR ⊢
    refine wp_region_below (by kernel_rfl) (by kernel_rfl) ?_
    intro TT f hne hfb hfc
    have xs : ∀ x j, (f x).cell? ⟨w.heap.size, j, none⟩ = (#[.slice qf 0 cf, .slice qs 0 cs, .slice qn 0 cn, .slice qr nr cr, .bool true] : Array Value)[j]? := fun x => ((unhide XS).below (hfb x)).cell
    have HFB := hide hfb
    have HFC := hide hfc
    clear hfb hfc
    repeat (go_big_quiet_step (first | (go_at_call 235; exact calls_qb (unhide HFB) (unhide HFC) (unhide CL _)) | (go_at_call 138; exact calls_qs (unhide CK _))))
    refine wpQuiet_nil ?_
    intro x
    have B1 := hide (bl_tr (unhide B0) (unhide HFB x))
    have XS1 := hide ((unhide XS).below (unhide HFB x))
    have XR1 := hide ((unhide XR).below (unhide HFB x))
    have ys := (unhide XS1).cell
    have yr := (unhide XR1).cell
    have gr := (unhide XR1).frozen
    clear xs
    generalize f x = w1 at B1 XS1 XR1 ys yr gr ⊢
    go_wp2_with fail
    refine (unhide CU _ (unhide B1)).mono ?_
    rintro e w2 ⟨q1, d1, rfl, hq⟩
    obtain ⟨hO, hb⟩ := unhide hq
    have OR2 := hide hO
    have B2 := hide (bl_tr (unhide B1) hb)
    have XS2 := hide ((unhide XS1).below hb)
    have XR2 := hide ((unhide XR1).below hb)
    have x2 := (unhide XS2).cell
    have f2 := (unhide XS2).frozen
    have lw : w.heap.size < w1.heap.size := (unhide XS1).lt
    have lw1 : w.heap.size + 1 < w1.heap.size := (unhide XR1).lt
    have lw2 : w1.heap.size ≤ w2.heap.size := hb.size
    clear hq hO hb ys yr gr B0 XS XR B1 XS1 XR1
    have Bs := hide (bset5 (unhide B2) (Nat.le_refl w.heap.size) (.slice none 0 0) (.slice q1 N d1) (.slice none 0 0) (.slice none 0 0) (.bool false))
    have XSs := hide ((unhide XS2).set5 (.slice none 0 0) (.slice q1 N d1) (.slice none 0 0) (.slice none 0 0) (.bool false))
    have XRs := hide ((unhide XR2).off5 (show w.heap.size + 1 ≠ w.heap.size by omega) (.slice none 0 0) (.slice q1 N d1) (.slice none 0 0) (.slice none 0 0) (.bool false))
    have ORs := hide (ownsRow_set5 (unhide OR2) lw (.slice none 0 0) (.slice q1 N d1) (.slice none 0 0) (.slice none 0 0) (.bool false))
    have hsz : (((((w2.setCell ⟨w.heap.size, 0, none⟩ (.slice none 0 0)).setCell ⟨w.heap.size, 1, none⟩ (.slice q1 N d1)).setCell ⟨w.heap.size, 2, none⟩ (.slice none 0 0)).setCell ⟨w.heap.size, 3, none⟩ (.slice none 0 0)).setCell ⟨w.heap.size, 4, none⟩ (.bool false)).heap.size = w2.heap.size := by simp [World.setCell]
    have B3 := hide (bl_tr (unhide Bs) (al1p _ (Obj.cells #[.int .i64 9, .slice none 0 0, .slice none 0 0, .slice none 0 0, .slice none 0 0] 80)))
    have XS3 := hide ((unhide XSs).alloc (Obj.cells #[.int .i64 9, .slice none 0 0, .slice none 0 0, .slice none 0 0, .slice none 0 0] 80))
    have XR3 := hide ((unhide XRs).alloc (Obj.cells #[.int .i64 9, .slice none 0 0, .slice none 0 0, .slice none 0 0, .slice none 0 0] 80))
    have OR3 := hide (ownsRow_bel (unhide ORs) (by omega) (al1p _ (Obj.cells #[.int .i64 9, .slice none 0 0, .slice none 0 0, .slice none 0 0, .slice none 0 0] 80)))
    have XT3 : Hid (Box ((((((w2.setCell ⟨w.heap.size, 0, none⟩ (.slice none 0 0)).setCell ⟨w.heap.size, 1, none⟩ (.slice q1 N d1)).setCell ⟨w.heap.size, 2, none⟩ (.slice none 0 0)).setCell ⟨w.heap.size, 3, none⟩ (.slice none 0 0)).setCell ⟨w.heap.size, 4, none⟩ (.bool false)).alloc (Obj.cells #[.int .i64 9, .slice none 0 0, .slice none 0 0, .slice none 0 0, .slice none 0 0] 80)) w2.heap.size #[.int .i64 9, .slice none 0 0, .slice none 0 0, .slice none 0 0, .slice none 0 0] 80) := hide (by have h := Box.new (((((w2.setCell ⟨w.heap.size, 0, none⟩ (.slice none 0 0)).setCell ⟨w.heap.size, 1, none⟩ (.slice q1 N d1)).setCell ⟨w.heap.size, 2, none⟩ (.slice none 0 0)).setCell ⟨w.heap.size, 3, none⟩ (.slice none 0 0)).setCell ⟨w.heap.size, 4, none⟩ (.bool false)) #[.int .i64 9, .slice none 0 0, .slice none 0 0, .slice none 0 0, .slice none 0 0] 80; rw [hsz] at h; exact h)
    have lx := (unhide XS2).lt
    have lx1 := (unhide XR2).lt
    have fx := (unhide XSs).cell
    have LW := hide (And.intro lw (And.intro lw1 lw2))
    clear B2 XS2 XR2 OR2 Bs XSs XRs ORs hsz hw c1 hrl CK CL CU lw lw1 lw2
    go_wp2_with fail
    generalize (((((w2.setCell ⟨w.heap.size, 0, none⟩ (.slice none 0 0)).setCell ⟨w.heap.size, 1, none⟩ (.slice q1 N d1)).setCell ⟨w.heap.size, 2, none⟩ (.slice none 0 0)).setCell ⟨w.heap.size, 3, none⟩ (.slice none 0 0)).setCell ⟨w.heap.size, 4, none⟩ (.bool false)).alloc (Obj.cells #[.int .i64 9, .slice none 0 0, .slice none 0 0, .slice none 0 0, .slice none 0 0] 80) = W at B3 XS3 XR3 XT3 OR3 ⊢
    have hne : w2.heap.size ≠ w.heap.size + 1 := by omega
    have LY : Hid (Ls (Value.int .i64) W q1 d1 YS) := hide (by
      have OG : OwnG 2 (Value.int .i64) w W (.slice q1 N d1) YS := ⟨own_len (ownsRow_base (unhide OR3) (Nat.le_of_lt (unhide LW).1)) (unhide HLL).symm rfl, unhide B3⟩
      obtain ⟨p, cap, e, hL, _⟩ := OG.form
      simp only [Value.slice.injEq] at e
      obtain ⟨rfl, _, rfl⟩ := e
      exact hL)
    have CT := hide (ctruths_any q1 d1 YS W (unhide LY) (by rw [unhide HLL]; omega))
    rw [unhide HLL, unhide HOK] at CT
    rw [if_pos rfl] at CT
    refine (unhide CT).mono ?_
    rintro e w4 ⟨v, rfl, hO⟩
    obtain ⟨q4, d4, hq, _, _⟩ := hO.form
    subst hq
    rw [unhide HL] at hO
    rw [unhide HL]
    have OR4 := hide hO.1
    have B4 := hide (bl_tr (unhide B3) hO.2)
    have XS4 := hide ((unhide XS3).below hO.2)
    have XR4 := hide ((unhide XR3).below hO.2)
    have XT4 := hide ((unhide XT3).below hO.2)
    have x4 := (unhide XT4).cell
    have f4 := (unhide XT4).frozen
    have l4 : w2.heap.size < W.heap.size := (unhide XT3).lt
    clear hO CT LY fx
    have XT5 : Hid (Box (w4.setCell ⟨w2.heap.size, 4, none⟩ (.slice q4 N d4)) w2.heap.size #[.int .i64 9, .slice none 0 0, .slice none 0 0, .slice none 0 0, .slice q4 N d4] 80) := hide ((unhide XT4).same 4 (.slice q4 N d4))
    have XS5 := hide ((unhide XS4).other (show w.heap.size ≠ w2.heap.size by omega) 4 (.slice q4 N d4))
    have XR5 := hide ((unhide XR4).other (show w.heap.size + 1 ≠ w2.heap.size by omega) 4 (.slice q4 N d4))
    have B5' := hide ((unhide B4).setCell (p := ⟨w2.heap.size, 4, none⟩) (show w.heap.size ≤ w2.heap.size by omega) (.slice q4 N d4))
    have OR5' := hide (ownsRow_stay (unhide OR4) l4 (Stay.set w2.heap.size w4 4 (.slice q4 N d4)))
    have x5 := (unhide XT5).cell
    have LV := hide (And.intro l4 (And.intro lx lx1))
    clear XS4 XR4 XT4 B4 OR4 l4 XS3 XR3 XT3 B3 OR3
    go_wp2_with fail
    clear x4 f4
    generalize w4.setCell ⟨w2.heap.size, 4, none⟩ (.slice q4 N d4) = W' at B5' XS5 XR5 XT5 OR5' x5 ⊢
    have CL := hide (fun v => clisted_any none 0 0 q1 N d1 none 0 0 none 0 0 false v (by omega) (by omega) (by omega))
    have c3 : ((N : Int) == (N : Int)) = true := by simp
    have B0 := B5'
    have XS := XS5
    have XR := XR5
    have XT := XT5
    have xs := (unhide XS).cell
    have xt := (unhide XT).cell
    have xr := (unhide XR).cell
    have fr := (unhide XR).frozen
    have xsd := ((unhide XS).below (bdrewp W')).cell
    have xtd := ((unhide XT).below (bdrewp W')).cell
    have xrd := ((unhide XR).below (bdrewp W')).cell
    have frd := ((unhide XR).below (bdrewp W')).frozen
    go_region_held3 (fun v => (∀ j, v.cell? ⟨w.heap.size, j, none⟩ = (#[.slice none 0 0, .slice q1 N d1, .slice none 0 0, .slice none 0 0, .bool false] : Array Value)[j]?) ∧ (∀ j, v.cell? ⟨w2.heap.size, j, none⟩ = (#[.int .i64 9, .slice none 0 0, .slice none 0 0, .slice none 0 0, .slice q4 N d4] : Array Value)[j]?)) (refine ⟨?_, ?_⟩ <;> with_reducible assumption)
      ((go_at_call 235; (refine (unhide CL _).mono ?_; rintro e w6 ⟨rfl, hb⟩; have B1 := hide (bl_tr (unhide B0) (bl_tr (bdrewp W') hb)); have BD := hide (bl_tr (bdrewp W') hb); have XR1 := hide ((unhide XR).below (bl_tr (bdrewp W') hb)); have ys := ((unhide XS).below (bl_tr (bdrewp W') hb)).cell; have yt := ((unhide XT).below (bl_tr (bdrewp W') hb)).cell; have yr := (unhide XR1).cell; have gr := (unhide XR1).frozen; have zs := (((unhide XS).below (bl_tr (bdrewp W') hb)).off5 (show w.heap.size ≠ w.heap.size + 1 by omega) (.int .i64 9) (.slice none 0 0) (.slice none 0 0) (.slice none 0 0) (.slice q4 N d4)).cell; have zt := (((unhide XT).below (bl_tr (bdrewp W') hb)).off5 (show w2.heap.size ≠ w.heap.size + 1 by omega) (.int .i64 9) (.slice none 0 0) (.slice none 0 0) (.slice none 0 0) (.slice q4 N d4)).cell; clear hb)))
    go_wp2_with fail
    have Y5 := hide ((unhide XR1).set5 (.int .i64 9) (.slice none 0 0) (.slice none 0 0) (.slice none 0 0) (.slice q4 N d4))
    have B5 := hide (bset5 (unhide B1) (show w.heap.size ≤ w.heap.size + 1 by omega) (.int .i64 9) (.slice none 0 0) (.slice none 0 0) (.slice none 0 0) (.slice q4 N d4))
    have OR9 := hide (ownsRow_base (ownsRow_set5 (ownsRow_bel (unhide OR5') (by have := (unhide LV); omega) (unhide BD)) (show w.heap.size + 1 < W.heap.size by have := (unhide LV); omega) (.int .i64 9) (.slice none 0 0) (.slice none 0 0) (.slice none 0 0) (.slice q4 N d4)) (show w.heap.size ≤ W.heap.size by have := (unhide LV); omega))
    refine bodyPost_ret ?_ rfl ⟨q4, d4, rfl, hide ⟨own_len (unhide OR9) (unhide HL) rfl, unhide B5⟩⟩
    simp [results, Tryz.results185, go_sem, (unhide Y5).cell]

end Go.Proofs.YtkjlhmojdffooaaGreat
