import Derived.Test.YtmdlaahdgjegcaaGreatV02
import Derived.Test.YtmdlaahdgjegcaaGreatV27
import Derived.Test.YtmdlaahdgjegcaaGreatV34
import Derived.Test.YtmdlaahdgjegcaaGreatV41
import Derived.Test.YtmdlaahdgjegcaaGreatV42
set_option maxRecDepth 100000
set_option maxHeartbeats 8000000
namespace Go.Proofs.YtmdlaahdgjegcaaGreat
open Go.RowKit
set_option linter.unusedVariables false
theorem ctenBr_any (qf:Option Addr) (cf:Nat) (qs:Option Addr) (cs:Nat) (qn:Option Addr) (cn:Nat) (qr:Option Addr) (cr:Nat) (rw:List Int) (N:Nat) (w:World) (hr:Ints .u8 w qr cr rw) (hl:rw.length = N * 1) (hN:N ≤ 4096) :
  Calls Tryz.prog 185 #[.agg #[.slice qf 0 cf,.slice qs 0 cs,.slice qn 0 cn,.slice qr rw.length cr,.bool true],.int .i64 9,.int .i64 N] w fun e w' => ∃ q d,e = .returned (.tuple #[.agg #[.int .i64 9,.slice none 0 0,.slice none 0 0,.slice none 0 0,.slice q (trV ((List.range N).map (fun i => (i64w) (atP 1 rw i)))).length d],.bool (truthsOK ((List.range N).map (fun i => (i64w) (atP 1 rw i))))]) ∧ Hid (w'.ownsRow w.heap.size 4 1 (.slice q (trV ((List.range N).map (fun i => (i64w) (atP 1 rw i)))).length d) (trV ((List.range N).map (fun i => (i64w) (atP 1 rw i)))).length ((trV ((List.range N).map (fun i => (i64w) (atP 1 rw i)))).map Value.bool) ∧ Below w.heap.size w w'):=by
 have CL:=hide (fun v => clisted_any qf 0 cf qs 0 cs qn 0 cn qr rw.length cr true v (by omega) (by omega) (by omega))
 have CK:=hide (fun v => cwidth_any 9 v)
 rw [show widthV 9 = 1 from rfl] at CK
 have CU:=hide (fun v (hv:Below w.heap.size w v) => ccutB_any qr cr rw N v (hr.below hv) hl (by omega))
 have hw:IntKind.i64.wrap ((N:Int) * 1) = (N:Int) * 1:=by rw [IntKind.wrap_i64]; omega
 have c1:((rw.length:Int) != (N:Int) * 1) = false:=by simp; omega
 have hrl:rw.length ≤ 100000:=by omega
 generalize rw.length = nr at CL CU c1 hrl ⊢
 clear hr hl
 have hll:((List.range N).map (fun i => (i64w) (atP 1 rw i))).length = N:=by rw [List.length_map,List.length_range]
 have HLL:=hide hll
 clear hll
 generalize (List.range N).map (fun i => (i64w) (atP 1 rw i)) = YS at CU HLL ⊢
 have HT:Hid (trV YS = if truthsOK YS = true then YS.map (· == 1) else []):=hide rfl
 cases hok:truthsOK YS with
 | false =>
   have HOK:=hide hok
   rw [hok,if_neg (by decide)] at HT
   rw [uh HT]
   have HL:Hid (([]:List Bool).length = 0):=hide rfl
   clear hok
   have B0:=hide (al2p w (Obj.cells #[.slice qf 0 cf,.slice qs 0 cs,.slice qn 0 cn,.slice qr nr cr,.bool true] 228) (Obj.cells #[.int .i64 0,.slice none 0 0,.slice none 0 0,.slice none 0 0,.slice none 0 0] 80))
   have XS:=hide ((Box.new w #[.slice qf 0 cf,.slice qs 0 cs,.slice qn 0 cn,.slice qr nr cr,.bool true] 228).alloc (Obj.cells #[.int .i64 0,.slice none 0 0,.slice none 0 0,.slice none 0 0,.slice none 0 0] 80))
   have XR:Hid (Box ((w.alloc (Obj.cells #[.slice qf 0 cf,.slice qs 0 cs,.slice qn 0 cn,.slice qr nr cr,.bool true] 228)).alloc (Obj.cells #[.int .i64 0,.slice none 0 0,.slice none 0 0,.slice none 0 0,.slice none 0 0] 80)) (w.heap.size + 1) #[.int .i64 0,.slice none 0 0,.slice none 0 0,.slice none 0 0,.slice none 0 0] 80):=hide (by have h:=Box.new (w.alloc (Obj.cells #[.slice qf 0 cf,.slice qs 0 cs,.slice qn 0 cn,.slice qr nr cr,.bool true] 228)) #[.int .i64 0,.slice none 0 0,.slice none 0 0,.slice none 0 0,.slice none 0 0] 80; rw [alloc_size6] at h; exact h)
   go_enter Tryz.func185,Tryz.ntmps185
   go_wp2_with fail
   generalize (w.alloc (Obj.cells #[.slice qf 0 cf,.slice qs 0 cs,.slice qn 0 cn,.slice qr nr cr,.bool true] 228)).alloc (Obj.cells #[.int .i64 0,.slice none 0 0,.slice none 0 0,.slice none 0 0,.slice none 0 0] 80) = W at B0 XS XR ⊢
   refine wp_region_below (by kernel_rfl) (by kernel_rfl) ?_
   intro TT f hne hfb hfc
   have xs:∀ x j,(f x).cell? ⟨w.heap.size,j,none⟩ = (#[.slice qf 0 cf,.slice qs 0 cs,.slice qn 0 cn,.slice qr nr cr,.bool true]:Array Value)[j]?:=fun x => ((uh XS).below (hfb x)).cell
   have HFB:=hide hfb
   have HFC:=hide hfc
   clear hfb hfc
   repeat (go_big_quiet_step (first | (go_at_call 235; exact calls_qb (uh HFB) (uh HFC) (uh CL _)) | (go_at_call 138; exact calls_qs (uh CK _))))
   refine wpQuiet_nil ?_
   intro x
   have B1:=hide (bl_tr (uh B0) (uh HFB x))
   have XS1:=hide ((uh XS).below (uh HFB x))
   have XR1:=hide ((uh XR).below (uh HFB x))
   have ys:=(uh XS1).cell
   have yr:=(uh XR1).cell
   have gr:=(uh XR1).frozen
   clear xs
   generalize f x = w1 at B1 XS1 XR1 ys yr gr ⊢
   go_wp2_with fail
   refine (uh CU _ (uh B1)).mono ?_
   rintro e w2 ⟨q1,d1,rfl,hq⟩
   obtain ⟨hO,hb⟩:=uh hq
   have OR2:=hide hO
   have B2:=hide (bl_tr (uh B1) hb)
   have XS2:=hide ((uh XS1).below hb)
   have XR2:=hide ((uh XR1).below hb)
   have x2:=(uh XS2).cell
   have f2:=(uh XS2).frozen
   have lw:w.heap.size < w1.heap.size:=(uh XS1).lt
   have lw1:w.heap.size + 1 < w1.heap.size:=(uh XR1).lt
   have lw2:w1.heap.size ≤ w2.heap.size:=hb.size
   clear hq hO hb ys yr gr B0 XS XR B1 XS1 XR1
   have Bs:=hide (bset5 (uh B2) (Nat.le_refl w.heap.size) (.slice none 0 0) (.slice q1 N d1) (.slice none 0 0) (.slice none 0 0) (.bool false))
   have XSs:=hide ((uh XS2).set5 (.slice none 0 0) (.slice q1 N d1) (.slice none 0 0) (.slice none 0 0) (.bool false))
   have XRs:=hide ((uh XR2).off5 (show w.heap.size + 1 ≠ w.heap.size by omega) (.slice none 0 0) (.slice q1 N d1) (.slice none 0 0) (.slice none 0 0) (.bool false))
   have ORs:=hide (ownsRow_set5 (uh OR2) lw (.slice none 0 0) (.slice q1 N d1) (.slice none 0 0) (.slice none 0 0) (.bool false))
   have hsz:(((((w2.setCell ⟨w.heap.size,0,none⟩ (.slice none 0 0)).setCell ⟨w.heap.size,1,none⟩ (.slice q1 N d1)).setCell ⟨w.heap.size,2,none⟩ (.slice none 0 0)).setCell ⟨w.heap.size,3,none⟩ (.slice none 0 0)).setCell ⟨w.heap.size,4,none⟩ (.bool false)).heap.size = w2.heap.size:=by simp [World.setCell]
   have B3:=hide (bl_tr (uh Bs) (al1p _ (Obj.cells #[.int .i64 9,.slice none 0 0,.slice none 0 0,.slice none 0 0,.slice none 0 0] 80)))
   have XS3:=hide ((uh XSs).alloc (Obj.cells #[.int .i64 9,.slice none 0 0,.slice none 0 0,.slice none 0 0,.slice none 0 0] 80))
   have XR3:=hide ((uh XRs).alloc (Obj.cells #[.int .i64 9,.slice none 0 0,.slice none 0 0,.slice none 0 0,.slice none 0 0] 80))
   have OR3:=hide (ownsRow_bel (uh ORs) (by omega) (al1p _ (Obj.cells #[.int .i64 9,.slice none 0 0,.slice none 0 0,.slice none 0 0,.slice none 0 0] 80)))
   have XT3:Hid (Box ((((((w2.setCell ⟨w.heap.size,0,none⟩ (.slice none 0 0)).setCell ⟨w.heap.size,1,none⟩ (.slice q1 N d1)).setCell ⟨w.heap.size,2,none⟩ (.slice none 0 0)).setCell ⟨w.heap.size,3,none⟩ (.slice none 0 0)).setCell ⟨w.heap.size,4,none⟩ (.bool false)).alloc (Obj.cells #[.int .i64 9,.slice none 0 0,.slice none 0 0,.slice none 0 0,.slice none 0 0] 80)) w2.heap.size #[.int .i64 9,.slice none 0 0,.slice none 0 0,.slice none 0 0,.slice none 0 0] 80):=hide (by have h:=Box.new (((((w2.setCell ⟨w.heap.size,0,none⟩ (.slice none 0 0)).setCell ⟨w.heap.size,1,none⟩ (.slice q1 N d1)).setCell ⟨w.heap.size,2,none⟩ (.slice none 0 0)).setCell ⟨w.heap.size,3,none⟩ (.slice none 0 0)).setCell ⟨w.heap.size,4,none⟩ (.bool false)) #[.int .i64 9,.slice none 0 0,.slice none 0 0,.slice none 0 0,.slice none 0 0] 80; rw [hsz] at h; exact h)
   have lx:=(uh XS2).lt
   have lx1:=(uh XR2).lt
   have fx:=(uh XSs).cell
   have LW:=hide (And.intro lw (And.intro lw1 lw2))
   clear B2 XS2 XR2 OR2 Bs XSs XRs ORs hsz hw c1 hrl CK CL CU lw lw1 lw2
   go_wp2_with fail
   generalize (((((w2.setCell ⟨w.heap.size,0,none⟩ (.slice none 0 0)).setCell ⟨w.heap.size,1,none⟩ (.slice q1 N d1)).setCell ⟨w.heap.size,2,none⟩ (.slice none 0 0)).setCell ⟨w.heap.size,3,none⟩ (.slice none 0 0)).setCell ⟨w.heap.size,4,none⟩ (.bool false)).alloc (Obj.cells #[.int .i64 9,.slice none 0 0,.slice none 0 0,.slice none 0 0,.slice none 0 0] 80) = W at B3 XS3 XR3 XT3 OR3 ⊢
   have hne:w2.heap.size ≠ w.heap.size + 1:=by omega
   have LY:Hid (Ls (Value.int .i64) W q1 d1 YS):=hide (by
    have OG:OwnG 2 (Value.int .i64) w W (.slice q1 N d1) YS:=⟨own_len (ownsRow_base (uh OR3) (Nat.le_of_lt (uh LW).1)) (uh HLL).symm rfl,uh B3⟩
    obtain ⟨p,cap,e,hL,_⟩:=OG.form
    simp only [Value.slice.injEq] at e
    obtain ⟨rfl,_,rfl⟩:=e
    exact hL)
   have CT:=hide (ctruths_any q1 d1 YS W (uh LY) (by rw [uh HLL]; omega))
   rw [uh HLL,uh HOK] at CT
   rw [if_neg (by decide)] at CT
   refine (uh CT).mono ?_
   rintro e w4 ⟨v,rfl,hO⟩
   obtain ⟨q4,d4,hq,_,_⟩:=hO.form
   subst hq
   rw [uh HL] at hO
   rw [uh HL]
   have OR4:=hide hO.1
   have B4:=hide (bl_tr (uh B3) hO.2)
   have XS4:=hide ((uh XS3).below hO.2)
   have XR4:=hide ((uh XR3).below hO.2)
   have XT4:=hide ((uh XT3).below hO.2)
   have x4:=(uh XT4).cell
   have f4:=(uh XT4).frozen
   have l4:w2.heap.size < W.heap.size:=(uh XT3).lt
   clear hO CT LY fx
   have XT5:Hid (Box (w4.setCell ⟨w2.heap.size,4,none⟩ (.slice q4 0 d4)) w2.heap.size #[.int .i64 9,.slice none 0 0,.slice none 0 0,.slice none 0 0,.slice q4 0 d4] 80):=hide ((uh XT4).same 4 (.slice q4 0 d4))
   have XS5:=hide ((uh XS4).other (show w.heap.size ≠ w2.heap.size by omega) 4 (.slice q4 0 d4))
   have XR5:=hide ((uh XR4).other (show w.heap.size + 1 ≠ w2.heap.size by omega) 4 (.slice q4 0 d4))
   have B5':=hide ((uh B4).setCell (p:=⟨w2.heap.size,4,none⟩) (show w.heap.size ≤ w2.heap.size by omega) (.slice q4 0 d4))
   have OR5':=hide (ownsRow_stay (uh OR4) l4 (Stay.set w2.heap.size w4 4 (.slice q4 0 d4)))
   have x5:=(uh XT5).cell
   have LV:=hide (And.intro l4 (And.intro lx lx1))
   clear XS4 XR4 XT4 B4 OR4 l4 XS3 XR3 XT3 B3 OR3
   go_wp2_with fail
   clear x4 f4
   generalize w4.setCell ⟨w2.heap.size,4,none⟩ (.slice q4 0 d4) = W' at B5' XS5 XR5 XT5 OR5' x5 ⊢
   have CL:=hide (fun v => clisted_any none 0 0 q1 N d1 none 0 0 none 0 0 false v (by omega) (by omega) (by omega))
   have c3:((N:Int) == (N:Int)) = true:=by simp
   have B0:=B5'
   have XS:=XS5
   have XR:=XR5
   have XT:=XT5
   have xs:=(uh XS).cell
   have xt:=(uh XT).cell
   have xr:=(uh XR).cell
   have fr:=(uh XR).frozen
   have xsd:=((uh XS).below (bdrewp W')).cell
   have xtd:=((uh XT).below (bdrewp W')).cell
   have xrd:=((uh XR).below (bdrewp W')).cell
   have frd:=((uh XR).below (bdrewp W')).frozen
   go_region
   go_wp2_with fail
   have Y5:=hide (((uh XR).set5 (.int .i64 9) (.slice none 0 0) (.slice none 0 0) (.slice none 0 0) (.slice q4 0 d4)).below (bdrewp _))
   have B5:=hide (bl_tr (bset5 (uh B0) (show w.heap.size ≤ w.heap.size + 1 by omega) (.int .i64 9) (.slice none 0 0) (.slice none 0 0) (.slice none 0 0) (.slice q4 0 d4)) (bdrewp _))
   have OR9:=hide (ownsRow_base (ownsRow_bel (ownsRow_set5 (uh OR5') (show w.heap.size + 1 < W.heap.size by have:=(uh LV); omega) (.int .i64 9) (.slice none 0 0) (.slice none 0 0) (.slice none 0 0) (.slice q4 0 d4)) (by have:=(uh LV); omega) (bdrewp _)) (show w.heap.size ≤ W.heap.size by have:=(uh LV); omega))
   refine bodyPost_ret ?_ rfl ⟨q4,d4,rfl,hide ⟨own_len (uh OR9) (uh HL) rfl,uh B5⟩⟩
   simp [results,Tryz.results185,go_sem,(uh Y5).cell]
 | true =>
   have HOK:=hide hok
   rw [hok,if_pos rfl] at HT
   rw [uh HT]
   have HL:Hid ((YS.map (· == 1)).length = N):=hide (by rw [List.length_map]; exact uh HLL)
   rw [uh HL]
   clear hok
   have B0:=hide (al2p w (Obj.cells #[.slice qf 0 cf,.slice qs 0 cs,.slice qn 0 cn,.slice qr nr cr,.bool true] 228) (Obj.cells #[.int .i64 0,.slice none 0 0,.slice none 0 0,.slice none 0 0,.slice none 0 0] 80))
   have XS:=hide ((Box.new w #[.slice qf 0 cf,.slice qs 0 cs,.slice qn 0 cn,.slice qr nr cr,.bool true] 228).alloc (Obj.cells #[.int .i64 0,.slice none 0 0,.slice none 0 0,.slice none 0 0,.slice none 0 0] 80))
   have XR:Hid (Box ((w.alloc (Obj.cells #[.slice qf 0 cf,.slice qs 0 cs,.slice qn 0 cn,.slice qr nr cr,.bool true] 228)).alloc (Obj.cells #[.int .i64 0,.slice none 0 0,.slice none 0 0,.slice none 0 0,.slice none 0 0] 80)) (w.heap.size + 1) #[.int .i64 0,.slice none 0 0,.slice none 0 0,.slice none 0 0,.slice none 0 0] 80):=hide (by have h:=Box.new (w.alloc (Obj.cells #[.slice qf 0 cf,.slice qs 0 cs,.slice qn 0 cn,.slice qr nr cr,.bool true] 228)) #[.int .i64 0,.slice none 0 0,.slice none 0 0,.slice none 0 0,.slice none 0 0] 80; rw [alloc_size6] at h; exact h)
   go_enter Tryz.func185,Tryz.ntmps185
   go_wp2_with fail
   generalize (w.alloc (Obj.cells #[.slice qf 0 cf,.slice qs 0 cs,.slice qn 0 cn,.slice qr nr cr,.bool true] 228)).alloc (Obj.cells #[.int .i64 0,.slice none 0 0,.slice none 0 0,.slice none 0 0,.slice none 0 0] 80) = W at B0 XS XR ⊢
   refine wp_region_below (by kernel_rfl) (by kernel_rfl) ?_
   intro TT f hne hfb hfc
   have xs:∀ x j,(f x).cell? ⟨w.heap.size,j,none⟩ = (#[.slice qf 0 cf,.slice qs 0 cs,.slice qn 0 cn,.slice qr nr cr,.bool true]:Array Value)[j]?:=fun x => ((uh XS).below (hfb x)).cell
   have HFB:=hide hfb
   have HFC:=hide hfc
   clear hfb hfc
   repeat (go_big_quiet_step (first | (go_at_call 235; exact calls_qb (uh HFB) (uh HFC) (uh CL _)) | (go_at_call 138; exact calls_qs (uh CK _))))
   refine wpQuiet_nil ?_
   intro x
   have B1:=hide (bl_tr (uh B0) (uh HFB x))
   have XS1:=hide ((uh XS).below (uh HFB x))
   have XR1:=hide ((uh XR).below (uh HFB x))
   have ys:=(uh XS1).cell
   have yr:=(uh XR1).cell
   have gr:=(uh XR1).frozen
   clear xs
   generalize f x = w1 at B1 XS1 XR1 ys yr gr ⊢
   go_wp2_with fail
   refine (uh CU _ (uh B1)).mono ?_
   rintro e w2 ⟨q1,d1,rfl,hq⟩
   obtain ⟨hO,hb⟩:=uh hq
   have OR2:=hide hO
   have B2:=hide (bl_tr (uh B1) hb)
   have XS2:=hide ((uh XS1).below hb)
   have XR2:=hide ((uh XR1).below hb)
   have x2:=(uh XS2).cell
   have f2:=(uh XS2).frozen
   have lw:w.heap.size < w1.heap.size:=(uh XS1).lt
   have lw1:w.heap.size + 1 < w1.heap.size:=(uh XR1).lt
   have lw2:w1.heap.size ≤ w2.heap.size:=hb.size
   clear hq hO hb ys yr gr B0 XS XR B1 XS1 XR1
   have Bs:=hide (bset5 (uh B2) (Nat.le_refl w.heap.size) (.slice none 0 0) (.slice q1 N d1) (.slice none 0 0) (.slice none 0 0) (.bool false))
   have XSs:=hide ((uh XS2).set5 (.slice none 0 0) (.slice q1 N d1) (.slice none 0 0) (.slice none 0 0) (.bool false))
   have XRs:=hide ((uh XR2).off5 (show w.heap.size + 1 ≠ w.heap.size by omega) (.slice none 0 0) (.slice q1 N d1) (.slice none 0 0) (.slice none 0 0) (.bool false))
   have ORs:=hide (ownsRow_set5 (uh OR2) lw (.slice none 0 0) (.slice q1 N d1) (.slice none 0 0) (.slice none 0 0) (.bool false))
   have hsz:(((((w2.setCell ⟨w.heap.size,0,none⟩ (.slice none 0 0)).setCell ⟨w.heap.size,1,none⟩ (.slice q1 N d1)).setCell ⟨w.heap.size,2,none⟩ (.slice none 0 0)).setCell ⟨w.heap.size,3,none⟩ (.slice none 0 0)).setCell ⟨w.heap.size,4,none⟩ (.bool false)).heap.size = w2.heap.size:=by simp [World.setCell]
   have B3:=hide (bl_tr (uh Bs) (al1p _ (Obj.cells #[.int .i64 9,.slice none 0 0,.slice none 0 0,.slice none 0 0,.slice none 0 0] 80)))
   have XS3:=hide ((uh XSs).alloc (Obj.cells #[.int .i64 9,.slice none 0 0,.slice none 0 0,.slice none 0 0,.slice none 0 0] 80))
   have XR3:=hide ((uh XRs).alloc (Obj.cells #[.int .i64 9,.slice none 0 0,.slice none 0 0,.slice none 0 0,.slice none 0 0] 80))
   have OR3:=hide (ownsRow_bel (uh ORs) (by omega) (al1p _ (Obj.cells #[.int .i64 9,.slice none 0 0,.slice none 0 0,.slice none 0 0,.slice none 0 0] 80)))
   have XT3:Hid (Box ((((((w2.setCell ⟨w.heap.size,0,none⟩ (.slice none 0 0)).setCell ⟨w.heap.size,1,none⟩ (.slice q1 N d1)).setCell ⟨w.heap.size,2,none⟩ (.slice none 0 0)).setCell ⟨w.heap.size,3,none⟩ (.slice none 0 0)).setCell ⟨w.heap.size,4,none⟩ (.bool false)).alloc (Obj.cells #[.int .i64 9,.slice none 0 0,.slice none 0 0,.slice none 0 0,.slice none 0 0] 80)) w2.heap.size #[.int .i64 9,.slice none 0 0,.slice none 0 0,.slice none 0 0,.slice none 0 0] 80):=hide (by have h:=Box.new (((((w2.setCell ⟨w.heap.size,0,none⟩ (.slice none 0 0)).setCell ⟨w.heap.size,1,none⟩ (.slice q1 N d1)).setCell ⟨w.heap.size,2,none⟩ (.slice none 0 0)).setCell ⟨w.heap.size,3,none⟩ (.slice none 0 0)).setCell ⟨w.heap.size,4,none⟩ (.bool false)) #[.int .i64 9,.slice none 0 0,.slice none 0 0,.slice none 0 0,.slice none 0 0] 80; rw [hsz] at h; exact h)
   have lx:=(uh XS2).lt
   have lx1:=(uh XR2).lt
   have fx:=(uh XSs).cell
   have LW:=hide (And.intro lw (And.intro lw1 lw2))
   clear B2 XS2 XR2 OR2 Bs XSs XRs ORs hsz hw c1 hrl CK CL CU lw lw1 lw2
   go_wp2_with fail
   generalize (((((w2.setCell ⟨w.heap.size,0,none⟩ (.slice none 0 0)).setCell ⟨w.heap.size,1,none⟩ (.slice q1 N d1)).setCell ⟨w.heap.size,2,none⟩ (.slice none 0 0)).setCell ⟨w.heap.size,3,none⟩ (.slice none 0 0)).setCell ⟨w.heap.size,4,none⟩ (.bool false)).alloc (Obj.cells #[.int .i64 9,.slice none 0 0,.slice none 0 0,.slice none 0 0,.slice none 0 0] 80) = W at B3 XS3 XR3 XT3 OR3 ⊢
   have hne:w2.heap.size ≠ w.heap.size + 1:=by omega
   have LY:Hid (Ls (Value.int .i64) W q1 d1 YS):=hide (by
    have OG:OwnG 2 (Value.int .i64) w W (.slice q1 N d1) YS:=⟨own_len (ownsRow_base (uh OR3) (Nat.le_of_lt (uh LW).1)) (uh HLL).symm rfl,uh B3⟩
    obtain ⟨p,cap,e,hL,_⟩:=OG.form
    simp only [Value.slice.injEq] at e
    obtain ⟨rfl,_,rfl⟩:=e
    exact hL)
   have CT:=hide (ctruths_any q1 d1 YS W (uh LY) (by rw [uh HLL]; omega))
   rw [uh HLL,uh HOK] at CT
   rw [if_pos rfl] at CT
   refine (uh CT).mono ?_
   rintro e w4 ⟨v,rfl,hO⟩
   obtain ⟨q4,d4,hq,_,_⟩:=hO.form
   subst hq
   rw [uh HL] at hO
   rw [uh HL]
   have OR4:=hide hO.1
   have B4:=hide (bl_tr (uh B3) hO.2)
   have XS4:=hide ((uh XS3).below hO.2)
   have XR4:=hide ((uh XR3).below hO.2)
   have XT4:=hide ((uh XT3).below hO.2)
   have x4:=(uh XT4).cell
   have f4:=(uh XT4).frozen
   have l4:w2.heap.size < W.heap.size:=(uh XT3).lt
   clear hO CT LY fx
   have XT5:Hid (Box (w4.setCell ⟨w2.heap.size,4,none⟩ (.slice q4 N d4)) w2.heap.size #[.int .i64 9,.slice none 0 0,.slice none 0 0,.slice none 0 0,.slice q4 N d4] 80):=hide ((uh XT4).same 4 (.slice q4 N d4))
   have XS5:=hide ((uh XS4).other (show w.heap.size ≠ w2.heap.size by omega) 4 (.slice q4 N d4))
   have XR5:=hide ((uh XR4).other (show w.heap.size + 1 ≠ w2.heap.size by omega) 4 (.slice q4 N d4))
   have B5':=hide ((uh B4).setCell (p:=⟨w2.heap.size,4,none⟩) (show w.heap.size ≤ w2.heap.size by omega) (.slice q4 N d4))
   have OR5':=hide (ownsRow_stay (uh OR4) l4 (Stay.set w2.heap.size w4 4 (.slice q4 N d4)))
   have x5:=(uh XT5).cell
   have LV:=hide (And.intro l4 (And.intro lx lx1))
   clear XS4 XR4 XT4 B4 OR4 l4 XS3 XR3 XT3 B3 OR3
   go_wp2_with fail
   clear x4 f4
   generalize w4.setCell ⟨w2.heap.size,4,none⟩ (.slice q4 N d4) = W' at B5' XS5 XR5 XT5 OR5' x5 ⊢
   have CL:=hide (fun v => clisted_any none 0 0 q1 N d1 none 0 0 none 0 0 false v (by omega) (by omega) (by omega))
   have c3:((N:Int) == (N:Int)) = true:=by simp
   have B0:=B5'
   have XS:=XS5
   have XR:=XR5
   have XT:=XT5
   have xs:=(uh XS).cell
   have xt:=(uh XT).cell
   have xr:=(uh XR).cell
   have fr:=(uh XR).frozen
   have xsd:=((uh XS).below (bdrewp W')).cell
   have xtd:=((uh XT).below (bdrewp W')).cell
   have xrd:=((uh XR).below (bdrewp W')).cell
   have frd:=((uh XR).below (bdrewp W')).frozen
   go_region_held3 (fun v => (∀ j,v.cell? ⟨w.heap.size,j,none⟩ = (#[.slice none 0 0,.slice q1 N d1,.slice none 0 0,.slice none 0 0,.bool false]:Array Value)[j]?) ∧ (∀ j,v.cell? ⟨w2.heap.size,j,none⟩ = (#[.int .i64 9,.slice none 0 0,.slice none 0 0,.slice none 0 0,.slice q4 N d4]:Array Value)[j]?)) (refine ⟨?_,?_⟩ <;> with_reducible assumption)
    ((go_at_call 235; (refine (uh CL _).mono ?_; rintro e w6 ⟨rfl,hb⟩; have B1:=hide (bl_tr (uh B0) (bl_tr (bdrewp W') hb)); have BD:=hide (bl_tr (bdrewp W') hb); have XR1:=hide ((uh XR).below (bl_tr (bdrewp W') hb)); have ys:=((uh XS).below (bl_tr (bdrewp W') hb)).cell; have yt:=((uh XT).below (bl_tr (bdrewp W') hb)).cell; have yr:=(uh XR1).cell; have gr:=(uh XR1).frozen; have zs:=(((uh XS).below (bl_tr (bdrewp W') hb)).off5 (show w.heap.size ≠ w.heap.size + 1 by omega) (.int .i64 9) (.slice none 0 0) (.slice none 0 0) (.slice none 0 0) (.slice q4 N d4)).cell; have zt:=(((uh XT).below (bl_tr (bdrewp W') hb)).off5 (show w2.heap.size ≠ w.heap.size + 1 by omega) (.int .i64 9) (.slice none 0 0) (.slice none 0 0) (.slice none 0 0) (.slice q4 N d4)).cell; clear hb)))
   go_wp2_with fail
   have Y5:=hide ((uh XR1).set5 (.int .i64 9) (.slice none 0 0) (.slice none 0 0) (.slice none 0 0) (.slice q4 N d4))
   have B5:=hide (bset5 (uh B1) (show w.heap.size ≤ w.heap.size + 1 by omega) (.int .i64 9) (.slice none 0 0) (.slice none 0 0) (.slice none 0 0) (.slice q4 N d4))
   have OR9:=hide (ownsRow_base (ownsRow_set5 (ownsRow_bel (uh OR5') (by have:=(uh LV); omega) (uh BD)) (show w.heap.size + 1 < W.heap.size by have:=(uh LV); omega) (.int .i64 9) (.slice none 0 0) (.slice none 0 0) (.slice none 0 0) (.slice q4 N d4)) (show w.heap.size ≤ W.heap.size by have:=(uh LV); omega))
   refine bodyPost_ret ?_ rfl ⟨q4,d4,rfl,hide ⟨own_len (uh OR9) (uh HL) rfl,uh B5⟩⟩
   simp [results,Tryz.results185,go_sem,(uh Y5).cell]
theorem each_no (l:List Fld) (num:Int):(eachP l num l.length).2 = no3 ↔ ((allV l num).any fun f => f.2.1 != 2) = false:=by
 have hl:¬ l.length < (allV l num).length:=by
  have:=List.length_filter_le (fun f:Fld => f.1 == num) l
  unfold allV; omega
 unfold eachP
 simp only
 rw [no_iff,no_bad,no_big,decide_eq_false hl]
 simp
theorem each_no2 (l:List Fld) (num:Int) (most:Nat):(eachP l num most).2 = no3 ↔ ((allV l num).any fun f => f.2.1 != 2) = false ∧ decide (most < (dsV l num).length) = false:=by
 unfold eachP
 simp only
 rw [no_iff,no_bad,no_big,ds_len]
theorem ds_isB {l:List Fld} (hl:OkL l) (num:Int):∀ b ∈ dsV l num,isB b:=fun b hb => each_ok hl num 0 b hb
theorem dim_no (b:List Int):f3 (fieldsP b).2 (dimCF b) = no3 ↔ (dimP b).2 = no3:=by
 unfold dimCF dimP wholeP
 simp only [no_iff,no_cons,no_nil,and_true]
 constructor
 ·rintro ⟨h1,h2,h3⟩; exact ⟨h1,h2,h3,h2⟩
 ·rintro ⟨h1,h2,h3,_⟩; exact ⟨h1,h2,h3⟩
theorem shape_no (b:List Int):(f3 (fieldsP b).2 (f3 (f3 (bad3 ((allV (fieldsP b).1 1).any fun f => f.2.1 != 2)) (fAll ((dsV (fieldsP b).1 1).map fun b => f3 (fieldsP b).2 (dimCF b)))) (dimsP ((dsV (fieldsP b).1 1).map dimC)).2) = no3 ↔ (shapeP b).2 = no3) ∧ (shapeP b).1 = (dsV (fieldsP b).1 1).map dimC:=by
 unfold shapeP
 simp only [ds_each]
 generalize fieldsP b = F
 obtain ⟨l,fb⟩:=F
 simp only
 have e:(dsV l 1).map (fun x => (dimP x).1) = (dsV l 1).map dimC:=rfl
 refine ⟨?_,rfl⟩
 rw [e,no_app,no_app]
 simp only [no_iff,no_cons,no_nil,and_true,no_map,each_no,no_bad]
 constructor
 ·rintro ⟨h1,⟨h2,h3⟩,h4⟩
  exact ⟨⟨⟨h1,h2⟩,fun x hx => (dim_no x).1 ((no_iff _ _).2 (h3 x hx))⟩,h4⟩
 ·rintro ⟨⟨⟨h1,h2⟩,h3⟩,h4⟩
  exact ⟨h1,⟨h2,fun x hx => (no_iff _ _).1 ((dim_no x).2 (h3 x hx))⟩,h4⟩
theorem value_eq (b:List Int):(f3 (fieldsP b).2 (valueCF (fieldsP b).1) = no3 ↔ (valueP b).2 = no3) ∧ ((valueP b).2 = no3 → valueC (fieldsP b).1 = (valueP b).1):=by
 unfold valueP
 simp only
 generalize fieldsP b = F
 obtain ⟨l,fb⟩:=F
 simp only
 unfold valueCF valueC
 cases h2:(messageP l 2).1.2 with
 | false =>
   have e:inIs l 2 = false:=h2
   rw [if_pos rfl,e]
   simp only [no_iff,no_bad]
   simp
 | true =>
   have e2:inIs l 2 = true:=h2
   rw [if_neg (by decide),e2]
   have k1:inL l 2 = (fieldsP (messageP l 2).1.1).1:=rfl
   have k2:inF l 2 = f3 (messageP l 2).2 (fieldsP (messageP l 2).1.1).2:=rfl
   rw [k1,k2]
   generalize fieldsP (messageP l 2).1.1 = S
   obtain ⟨ls,fs⟩:=S
   simp only
   cases h3:(messageP ls 1).1.2 with
   | false =>
     have e3:inIs ls 1 = false:=h3
     rw [if_pos rfl,e3]
     simp only [no_iff,no_odd]
     simp
   | true =>
     have e3:inIs ls 1 = true:=h3
     rw [if_neg (by decide),e3]
     have k3:inL ls 1 = (fieldsP (messageP ls 1).1.1).1:=rfl
     have k4:inF ls 1 = f3 (messageP ls 1).2 (fieldsP (messageP ls 1).1.1).2:=rfl
     rw [k3,k4]
     generalize fieldsP (messageP ls 1).1.1 = T
     obtain ⟨lt,ft⟩:=T
     simp only
     cases h4:(messageP lt 2).1.2 with
     | false =>
       have e4:inIs lt 2 = false:=h4
       rw [if_pos rfl,e4]
       simp only [no_iff,no_odd]
       simp
     | true =>
       have e4:inIs lt 2 = true:=h4
       rw [if_neg (by decide),e4]
       obtain ⟨s1,s2⟩:=shape_no (messageP lt 2).1.1
       have k5:inL lt 2 = (fieldsP (messageP lt 2).1.1).1:=rfl
       have k6:inF lt 2 = f3 (messageP lt 2).2 (fieldsP (messageP lt 2).1.1).2:=rfl
       rw [k5,k6]
       simp only
       refine ⟨?_,fun _ => by rw [s2]⟩
       rw [no_iff (fAll _),← s1]
       simp only [no_iff,no_cons,no_nil,and_true,width_known,no_bad,no_odd,Bool.not_true]
       constructor <;> (intro h; simp only [h,and_self])
theorem fields_nil:fieldsP [] = ([],no3):=by decide +kernel
theorem msg_nil {l:List Fld} {num:Int} (h:inIs l num = false):(messageP l num).1.1 = []:=by
 unfold inIs messageP joinV at *
 by_cases h1:(allV l num).any (fun f => f.2.1 != 2) = true
 ·rw [if_pos h1]
 ·rw [if_neg h1] at h ⊢
  simp only [decide_eq_false_iff_not] at h
  have:allV l num = []:=List.length_eq_zero_iff.1 (by omega)
  rw [this]; rfl
theorem attr_eq {b:List Int} (hb:isB b):(f3 (fieldsP b).2 (attrCF (fieldsP b).1) = no3 ↔ (attrP b).2 = no3) ∧ ((attrP b).2 = no3 → attrC (fieldsP b).1 = (attrP b).1):=by
 have hl:=fields_ok hb
 unfold attrP
 simp only
 generalize fieldsP b = F at hl
 obtain ⟨l,fb⟩:=F
 simp only at hl ⊢
 obtain ⟨T,hT⟩:∃ T:Rd7 TenD,(if (messageP l 5).1.2 = true then ((tensorP (messageP l 5).1.1).1.2,(tensorP (messageP l 5).1.1).2) else (noTen,no3)) = T:=⟨_,rfl⟩
 rw [hT]
 have tn:(inF l 5 = no3 ∧ (if inIs l 5 = true then tensorCF (inL l 5) else no3) = no3 ↔ (messageP l 5).2 = no3 ∧ T.2 = no3) ∧ (T.2 = no3 → (if inIs l 5 = true then (tensorC (inL l 5)).2 else noTen) = T.1):=by
  rw [← hT]
  cases h:(messageP l 5).1.2 with
  | false =>
    have e:inIs l 5 = false:=h
    rw [e]
    unfold inF
    rw [msg_nil e,fields_nil]
    simp [no_iff]
  | true =>
    have e:inIs l 5 = true:=h
    rw [e]
    obtain ⟨t1,t2⟩:=tensor_eq (message_ok hl 5)
    unfold inF inL
    rw [if_pos rfl,if_pos rfl,if_pos rfl]
    simp only
    rw [← t1]
    refine ⟨by simp only [no_iff,and_assoc],fun h => by rw [t2 (t1.1 h)]⟩
 obtain ⟨tn1,tn2⟩:=tn
 obtain ⟨K,hK⟩:∃ K,(wholeP l 20).1 = K:=⟨_,rfl⟩
 have all:(f3 fb (attrCF l) = no3 ↔ fAll [fb,(nameP l 1).2,(lastF l 2 5).2,(wholeP l 3).2,(textP l 4).2,(messageP l 5).2,(floatsP l 7).2,(intsP l 8).2,T.2,big3 (decide (4096 < (textP l 4).1.length ∨ 4096 < (floatsP l 7).1.length ∨ 4096 < (intsP l 8).1.length)),(wholeP l 20).2] = no3 ∧ (!inIs l 5 && K == 4) = false ∧ kindB K = true ∧ (K == 0) = false):=by
  unfold attrCF
  rw [hK]
  simp only [no_iff,no_cons,no_nil,and_true,no_bad,no_odd,no_big,decide_eq_false_iff_not,not_or,Bool.not_eq_false']
  constructor
  ·rintro ⟨h0,⟨⟨⟨⟨⟨⟨⟨⟨⟨⟨⟨⟨⟨⟨h1,h2⟩,h3⟩,h4⟩,h5⟩,h6⟩,h7⟩,h8⟩,h9⟩,h10⟩,h11⟩,h12⟩,h13⟩,h14⟩,h15⟩⟩
   obtain ⟨g1,g2⟩:=tn1.1 ⟨h11,h13⟩
   exact ⟨⟨h0,h1,h3,h4,h5,g1,h6,h7,g2,⟨h8,h9,h10⟩,h2⟩,h12,h14,h15⟩
  ·rintro ⟨⟨h0,h1,h3,h4,h5,g1,h6,h7,g2,⟨h8,h9,h10⟩,h2⟩,h12,h14,h15⟩
   obtain ⟨h11,h13⟩:=tn1.2 ⟨g1,g2⟩
   exact ⟨h0,⟨⟨⟨⟨⟨⟨⟨⟨⟨⟨⟨⟨⟨⟨h1,h2⟩,h3⟩,h4⟩,h5⟩,h6⟩,h7⟩,h8⟩,h9⟩,h10⟩,h11⟩,h12⟩,h13⟩,h14⟩,h15⟩⟩
 rw [all]
 clear all
 unfold attrC
 rw [hK]
 simp only
 have hm:(messageP l 5).1.2 = inIs l 5:=rfl
 rw [hm]
 have ht2:fAll [fb,(nameP l 1).2,(lastF l 2 5).2,(wholeP l 3).2,(textP l 4).2,(messageP l 5).2,(floatsP l 7).2,(intsP l 8).2,T.2,big3 (decide (4096 < (textP l 4).1.length ∨ 4096 < (floatsP l 7).1.length ∨ 4096 < (intsP l 8).1.length)),(wholeP l 20).2] = no3 → T.2 = no3:=fun h => by
  simp only [no_cons] at h
  exact h.2.2.2.2.2.2.2.2.1
 generalize fAll [fb,(nameP l 1).2,(lastF l 2 5).2,(wholeP l 3).2,(textP l 4).2,(messageP l 5).2,(floatsP l 7).2,(intsP l 8).2,T.2,big3 (decide (4096 < (textP l 4).1.length ∨ 4096 < (floatsP l 7).1.length ∨ 4096 < (intsP l 8).1.length)),(wholeP l 20).2] = FL at ht2
 by_cases c0:K = 0
 ·subst c0
  simp [no_iff,no_bad]
 by_cases c1:K = 1
 ·subst c1
  simp [kindB]
 by_cases c2:K = 2
 ·subst c2
  simp [kindB]
 by_cases c3:K = 3
 ·subst c3
  simp [kindB]
 by_cases c4:K = 4
 ·subst c4
  simp only [Int.reduceEq,↓reduceIte,no_iff,no_bad]
  refine ⟨by simp [kindB],fun h => ?_⟩
  simp [tn2 (ht2 h.1)]
 by_cases c6:K = 6
 ·subst c6
  simp [kindB]
 by_cases c7:K = 7
 ·subst c7
  simp [kindB]
 rw [if_neg c0,if_neg c1,if_neg c2,if_neg c3,if_neg c4,if_neg c6,if_neg c7]
 have hk:kindB K = false:=by simp [kindB,c1,c2,c3,c4,c6,c7]
 rw [hk]
 simp [no_iff,no_odd]
theorem map_no {α:Type} {F G:List Int → F3} {A B:List Int → α} {ds:List (List Int)} (h:∀ b ∈ ds,(F b = no3 ↔ G b = no3) ∧ (G b = no3 → A b = B b)):(fAll (ds.map F) = no3 ↔ fAll (ds.map G) = no3) ∧ (fAll (ds.map G) = no3 → ds.map A = ds.map B):=by
 simp only [no_map]
 exact ⟨⟨fun k b hb => (h b hb).1.1 (k b hb),fun k b hb => (h b hb).1.2 (k b hb)⟩,fun k => List.map_congr_left fun b hb => (h b hb).2 (k b hb)⟩
theorem node_eq {b:List Int} (hb:isB b):(f3 (fieldsP b).2 (nodeCF (fieldsP b).1) = no3 ↔ (nodeP b).2 = no3) ∧ ((nodeP b).2 = no3 → nodeC (fieldsP b).1 = (nodeP b).1):=by
 have hl:=fields_ok hb
 unfold nodeP
 simp only [ds_each]
 generalize fieldsP b = F at hl
 obtain ⟨l,fb⟩:=F
 simp only at hl ⊢
 obtain ⟨m1,m2⟩:=map_no (ds:=dsV l 5) (F:=fun b => f3 (fieldsP b).2 (attrCF (fieldsP b).1)) (G:=fun b => (attrP b).2) (A:=fun b => attrC (fieldsP b).1) (B:=fun b => (attrP b).1) (fun b hb => attr_eq (ds_isB hl 5 b hb))
 have nm:∀ num,(nameF l num = no3 ∧ decide (64 < (dsV l num).length) = false) ↔ (namesP l num).2 = no3:=fun num => by
  unfold namesP nameF
  simp only [no_iff,no_bad,no_big,each_no2,no_map,ds_each,List.any_eq_false]
  constructor
  ·rintro ⟨⟨h1,h2⟩,h3⟩
   exact ⟨⟨h1,h3⟩,fun x hx => by rw [h2 x hx]; decide⟩
  ·rintro ⟨⟨h1,h2⟩,h3⟩
   exact ⟨⟨h1,fun x hx => by simpa using h3 x hx⟩,h2⟩
 have n1:=nm 1
 have n2:=nm 2
 have hn1:(namesP l 1).1 = dsV l 1:=rfl
 have hn2:(namesP l 2).1 = dsV l 2:=rfl
 rw [hn1,hn2]
 refine ⟨?_,fun h => ?_⟩
 ·unfold nodeCF msF
  rw [no_app,← m1]
  simp only [no_iff,no_cons,no_nil,and_true,no_bad,no_odd,no_big,each_no2,← n1,← n2]
  constructor <;> (intro h; simp only [h,and_self])
 ·rw [no_app] at h
  unfold nodeC
  rw [m2 h.2]
theorem msf_eq {α:Type} {l:List Fld} {num:Int} {most:Nat} {F:List Fld → F3} {P:List Int → Rd7 α} {C:List Fld → α} (h:∀ b ∈ dsV l num,(f3 (fieldsP b).2 (F (fieldsP b).1) = no3 ↔ (P b).2 = no3) ∧ ((P b).2 = no3 → C (fieldsP b).1 = (P b).1)) :
  ((msF l num F = no3 ∧ decide (most < (dsV l num).length) = false) ↔ ((eachP l num most).2 = no3 ∧ fAll ((dsV l num).map fun x => (P x).2) = no3)) ∧ (fAll ((dsV l num).map fun x => (P x).2) = no3 → (dsV l num).map (fun b => C (fieldsP b).1) = (dsV l num).map fun x => (P x).1):=by
 obtain ⟨m1,m2⟩:=map_no (ds:=dsV l num) (F:=fun b => f3 (fieldsP b).2 (F (fieldsP b).1)) (G:=fun b => (P b).2) (A:=fun b => C (fieldsP b).1) (B:=fun b => (P b).1) h
 refine ⟨?_,m2⟩
 unfold msF
 rw [no_iff,no_bad,each_no2,m1]
 constructor <;> (intro h; simp only [h,and_self])
theorem graph_eq {b:List Int} (hb:isB b):(f3 (fieldsP b).2 (graphCF (fieldsP b).1) = no3 ↔ (graphP b).2 = no3) ∧ ((graphP b).2 = no3 → graphC (fieldsP b).1 = (17,(graphP b).1)):=by
 have hl:=fields_ok hb
 unfold graphP
 simp only [ds_each]
 generalize fieldsP b = F at hl
 obtain ⟨l,fb⟩:=F
 simp only at hl ⊢
 obtain ⟨a1,a2⟩:=msf_eq (l:=l) (num:=1) (most:=1024) (F:=nodeCF) (P:=nodeP) (C:=nodeC) (fun b hb => node_eq (ds_isB hl 1 b hb))
 obtain ⟨b1,b2⟩:=msf_eq (l:=l) (num:=5) (most:=1024) (F:=tensorCF) (P:=tensorP) (C:=tensorC) (fun b hb => tensor_eq (ds_isB hl 5 b hb))
 obtain ⟨c1,c2⟩:=msf_eq (l:=l) (num:=11) (most:=64) (F:=valueCF) (P:=valueP) (C:=valueC) (fun b hb => value_eq b)
 obtain ⟨d1,d2⟩:=msf_eq (l:=l) (num:=12) (most:=64) (F:=valueCF) (P:=valueP) (C:=valueC) (fun b hb => value_eq b)
 have vi:∀ num,(valuesP l num).1 = (dsV l num).map fun x => (valueP x).1:=fun num => rfl
 have vf:∀ num,((valuesP l num).2 = no3 ↔ (eachP l num 64).2 = no3 ∧ fAll ((dsV l num).map fun x => (valueP x).2) = no3):=fun num => by
  unfold valuesP
  simp only
  rw [no_cons]
  rfl
 have sp:((lastV l 15 2).2.2 = 0 ∧ (lastV l 15 2).2.1 = false) ↔ ((eachP l 15 l.length).2 = no3 ∧ decide (0 < (dsV l 15).length) = false):=by
  rw [← last_no,no_bad,bne_eq_false_iff_eq,ds_len]
  constructor
  ·rintro ⟨h1,h2⟩
   exact ⟨h1,by rw [← (last_is h1).1]; exact h2⟩
  ·rintro ⟨h1,h2⟩
   exact ⟨h1,by rw [(last_is h1).1]; exact h2⟩
 refine ⟨?_,fun h => ?_⟩
 ·unfold graphCF
  simp only [no_app]
  simp only [no_iff,no_cons,no_nil,and_true,no_bad,no_odd,no_big,bne_eq_false_iff_eq,vf]
  constructor
  ·rintro ⟨h0,⟨⟨⟨⟨⟨⟨⟨⟨⟨⟨h1,h2⟩,h3⟩,h4⟩,h5⟩,h6⟩,h7⟩,h8⟩,h9⟩,h10⟩,h11⟩⟩
   obtain ⟨p1,p2⟩:=a1.1 ⟨h4,h8⟩
   obtain ⟨p3,p4⟩:=b1.1 ⟨h5,h9⟩
   have p5:=c1.1 ⟨h6,h10⟩
   have p6:=d1.1 ⟨h7,h11⟩
   obtain ⟨p7,p8⟩:=sp.1 ⟨h1,h2⟩
   exact ⟨⟨⟨⟨⟨h0,h3,p1⟩,p2⟩,p3⟩,p4⟩,p5,p6,p7,p8⟩
  ·rintro ⟨⟨⟨⟨⟨h0,h3,p1⟩,p2⟩,p3⟩,p4⟩,p5,p6,p7,p8⟩
   obtain ⟨h4,h8⟩:=a1.2 ⟨p1,p2⟩
   obtain ⟨h5,h9⟩:=b1.2 ⟨p3,p4⟩
   obtain ⟨h6,h10⟩:=c1.2 p5
   obtain ⟨h7,h11⟩:=d1.2 p6
   obtain ⟨h1,h2⟩:=sp.2 ⟨p7,p8⟩
   exact ⟨h0,⟨⟨⟨⟨⟨⟨⟨⟨⟨⟨h1,h2⟩,h3⟩,h4⟩,h5⟩,h6⟩,h7⟩,h8⟩,h9⟩,h10⟩,h11⟩⟩
 ·simp only [no_app] at h
  simp only [no_cons,no_nil,and_true,vf] at h
  obtain ⟨⟨⟨⟨_,p2⟩,_⟩,p4⟩,p5,p6,_⟩:=h
  unfold graphC
  rw [a2 p2,b2 p4,c2 p5.2,d2 p6.2,vi,vi]
theorem sets_no (l:List Fld):(msF l 8 setCF = no3 ∧ (!(versF 0 (dsV l 8) == 17)) = false) ↔ setsP l = no3:=by
 unfold setsP msF
 simp only [ds_each]
 simp only [no_app,no_iff,no_cons,no_nil,and_true,no_map,each_no,no_bad,no_odd,bne]
 unfold setCF
 simp only [no_iff]
theorem decode_eq {b:List Int} (hb:isB b) (hs:b.length ≤ 4194304):(decodeF b = no3 ↔ (decodeV b).2 = 0) ∧ (decodeF b = no3 → decodeV b = (graphC (inL (fieldsP b).1 7),0)):=by
 have hl:=fields_ok hb
 unfold decodeF decodeV
 rw [if_neg (by omega)]
 simp only
 generalize fieldsP b = F at hl
 obtain ⟨l,fb⟩:=F
 simp only at hl ⊢
 obtain ⟨g1,g2⟩:=graph_eq (message_ok hl 7)
 have main:f3 fb (modelCF l) = no3 ↔ fAll [fb,(wholeP l 1).2,(messageP l 7).2,bad3 (!(messageP l 7).1.2),(graphP (messageP l 7).1.1).2,setsP l] = no3:=by
  unfold modelCF inF inIs inL
  simp only [no_iff,no_cons,no_nil,and_true,no_bad,no_odd,← g1,← sets_no]
  constructor <;> (intro h; simp only [h,and_self])
 rw [main]
 have dat:fAll [fb,(wholeP l 1).2,(messageP l 7).2,bad3 (!(messageP l 7).1.2),(graphP (messageP l 7).1.1).2,setsP l] = no3 → (graphP (messageP l 7).1.1).2 = no3:=fun h => by
  simp only [no_cons] at h
  exact h.2.2.2.2.1
 generalize fAll [fb,(wholeP l 1).2,(messageP l 7).2,bad3 (!(messageP l 7).1.2),(graphP (messageP l 7).1.1).2,setsP l] = FL at dat
 obtain ⟨x,y,z⟩:=FL
 unfold inL
 cases x <;> cases y <;> cases z <;> simp [no3] at dat ⊢
 exact (g2 dat).symm
theorem own_ls {α:Type} [Inhabited α] {f:α → Value} {t:TypeId} {base n d:Nat} {w:World} {q:Option Addr} {xs:List α} (h:w.ownsRow base t 1 (.slice q n d) n (xs.map f)) (hn:xs.length = n):Ls f w q d xs:=by
 subst hn
 have h0:=h
 obtain ⟨l1,h1⟩:=h
 rcases h1 with ⟨e,hn⟩ | ⟨g,cap,cur,e,hb,hh,hc,hm,hs,ht⟩
 ·simp only [Value.slice.injEq] at e
  obtain ⟨rfl,_,rfl⟩:=e
  exact ⟨by omega,by omega,fun hp => by omega,fun _ => rfl⟩
 ·simp only [Value.slice.injEq] at e
  obtain ⟨rfl,_,rfl⟩:=e
  refine ⟨hc,hm,fun hp => ⟨g,0,rfl,(h0.lt g rfl).2,fun i hi => ?_⟩,fun h => by cases h⟩
  have e:cur.toList[i]? = some (f (xs.getD i default)):=by
   have e1:(cur.toList.take (xs.length * 1))[i]? = cur.toList[i]?:=List.getElem?_take_of_lt (by omega)
   rw [← e1,ht,List.getElem?_map,List.getElem?_eq_getElem hi,List.getD_eq_getElem?_getD,List.getElem?_eq_getElem hi]; rfl
  simp [World.cell?,hh]
  simpa using e
theorem u32_wf7 {x:Int} (h0:0 ≤ x) (h1:x < 4294967296):(Lit.int .u32 x).wf = true:=by
 simp [Lit.wf,IntKind.min,IntKind.max,IntKind.signed,IntKind.bits]
 omega
theorem i64_wf7 {x:Int} (h:i64B x):(Lit.int .i64 x).wf = true:=by
 unfold i64B at h
 simp [Lit.wf,IntKind.min,IntKind.max,IntKind.signed,IntKind.bits]
 omega
theorem tenT_f {B:Nat} {w:World} {p:Option Addr} {c:Nat} {xs:List Int} (h:Ints .u32 w p c xs) (t:Tag 84 B w p xs.length):TenT B w (1,[],xs,[],[]) ⟨none,0,p,c,none,0,none,0⟩:=⟨⟨rfl,nilInts _ _,h,nilInts _ _,Ls.nil _⟩,Tag.nil _ _ _ _,t,Tag.nil _ _ _ _,Tag.nil _ _ _ _⟩
theorem tenT_i {B:Nat} {w:World} {p:Option Addr} {c:Nat} {xs:List Int} (h:Ints .i64 w p c xs) (t:Tag 2 B w p xs.length):TenT B w (7,[],[],xs,[]) ⟨none,0,none,0,p,c,none,0⟩:=⟨⟨rfl,nilInts _ _,nilInts _ _,h,Ls.nil _⟩,Tag.nil _ _ _ _,Tag.nil _ _ _ _,t,Tag.nil _ _ _ _⟩
theorem tenT_b {B:Nat} {w:World} {p:Option Addr} {c:Nat} {xs:List Bool} (h:Ls Value.bool w p c xs) (t:Tag 4 B w p xs.length):TenT B w (9,[],[],[],xs) ⟨none,0,none,0,none,0,p,c⟩:=⟨⟨rfl,nilInts _ _,nilInts _ _,nilInts _ _,h⟩,Tag.nil _ _ _ _,Tag.nil _ _ _ _,Tag.nil _ _ _ _,t⟩
theorem tenT_0 (B:Nat) (w:World):TenT B w noTen noTA:=⟨noTen_in w,Tag.nil _ _ _ _,Tag.nil _ _ _ _,Tag.nil _ _ _ _,Tag.nil _ _ _ _⟩
def StT (B:Nat) (w:World) (a:StA):Prop:=(Ints .u32 w a.qf a.cf a.fl ∧ Tag 84 B w a.qf a.fl.length) ∧ Ints .i64 w a.qs a.cs a.sm ∧ (Ints .i64 w a.qn a.cn a.nu ∧ Tag 2 B w a.qn a.nu.length) ∧ Ints .u8 w a.qr a.cr a.rw ∧ a.fl.length ≤ 100000000 ∧ a.sm.length ≤ 100000000 ∧ a.nu.length ≤ 100000000
theorem Tag.bel {t:TypeId} {B n:Nat} {w w':World} {p:Option Addr} (h:Tag t B w p n) (hb:Below w.heap.size w w'):Tag t B w' p n:=h.kept (TS:=[t]) (by simp) (Kept.below hb)
def stEA (kind:Int) (N:Nat) (a:StA):Ten × Bool:=stE kind N a.fl a.sm a.nu a.rw a.isR
theorem ctensor_any (a:StA) (kind:Int) (N B:Nat) (w:World) (hk:knownB kind = true) (hN:N ≤ 4096) (h:StT B w a) :
  Calls Tryz.prog 185 #[.agg (stCells a),.int .i64 kind,.int .i64 N] w fun e w' => ∃ T A b,e = .returned (.tuple #[tenV T A,.bool b]) ∧ Hid (T = (stEA kind N a).1 ∧ b = (stEA kind N a).2 ∧ TenT B w' T A ∧ Below w.heap.size w w'):=by
 obtain ⟨fl,qf,cf,sm,qs,cs,nu,qn,cn,rw,qr,cr,isR⟩:=a
 obtain ⟨⟨i1,t1⟩,i2,⟨i3,t3⟩,i4,l1,l2,l3⟩:=h
 simp only at i1 t1 i2 i3 t3 i4 l1 l2 l3
 unfold stCells stEA stE tenV tenCells
 simp only
 cases isR with
 | false =>
   rw [if_neg (by decide)]
   rcases known_cases hk with rfl | rfl | rfl
   ·refine (ctenFp_any qf fl.length cf qs sm.length cs qn nu.length cn qr rw.length cr N w l1 l2 l3 (by omega)).mono ?_
    rintro e w' ⟨rfl,hb⟩
    rw [if_pos rfl]
    exact ⟨(1,[],fl,[],[]),⟨none,0,qf,cf,none,0,none,0⟩,_,rfl,hide ⟨rfl,decide_eq_decide.2 ⟨fun h => ⟨by omega,h.2⟩,fun h => ⟨by omega,h.2⟩⟩,tenT_f (i1.below hb) (t1.bel hb),hb⟩⟩
   ·refine (ctenIp_any qf fl.length cf qs sm.length cs qn nu.length cn qr rw.length cr N w l1 l2 l3 (by omega)).mono ?_
    rintro e w' ⟨rfl,hb⟩
    rw [if_neg (by decide),if_pos rfl]
    exact ⟨(7,[],[],nu,[]),⟨none,0,none,0,qn,cn,none,0⟩,_,rfl,hide ⟨rfl,decide_eq_decide.2 ⟨fun h => ⟨by omega,h.2⟩,fun h => ⟨by omega,h.2⟩⟩,tenT_i (i3.below hb) (t3.bel hb),hb⟩⟩
   ·refine (ctenBp_any qf fl.length cf qs cs sm qn nu.length cn qr rw.length cr N w l1 l2 l3 (by omega) i2.ls).mono ?_
    rintro e w' ⟨q,d,rfl,hq⟩
    obtain ⟨hO,hb⟩:=uh hq
    rw [if_neg (by decide),if_neg (by decide)]
    exact ⟨(9,[],[],[],trV sm),⟨none,0,none,0,none,0,q,d⟩,_,rfl,hide ⟨rfl,decide_eq_decide.2 ⟨fun h => ⟨h.1,by have:=h.2; omega,h.2.2⟩,fun h => ⟨h.1,by have:=h.2; omega,h.2.2⟩⟩,tenT_b (own_ls hO rfl) (own_tag hO),hb⟩⟩
 | true =>
   rw [if_pos rfl]
   by_cases hp:0 < fl.length + sm.length + nu.length
   ·rw [if_pos (.inl hp)]
    refine (ctenX1_any qf fl.length cf qs sm.length cs qn nu.length cn qr rw.length cr kind N w l1 l2 l3 hp).mono ?_
    rintro e w' ⟨rfl,hb⟩
    exact ⟨noTen,noTA,false,rfl,hide ⟨rfl,rfl,tenT_0 _ _,hb⟩⟩
   ·have z1:fl = []:=List.length_eq_zero_iff.1 (by omega)
    have z2:sm = []:=List.length_eq_zero_iff.1 (by omega)
    have z3:nu = []:=List.length_eq_zero_iff.1 (by omega)
    subst z1 z2 z3
    simp only [List.length_nil,Nat.add_zero,Nat.lt_irrefl,false_or]
    by_cases hl:(rw.length:Int) = (N:Int) * widthV kind
    ·rw [if_neg (fun h => h hl)]
     simp only [Int.toNat_natCast]
     rcases known_cases hk with rfl | rfl | rfl
     ·refine (ctenFr_any qf cf qs cs qn cn qr cr rw N w i4 (by have:widthV 1 = 4:=rfl; rw [this] at hl; omega) hN).mono ?_
      rintro e w' ⟨q,d,rfl,hq⟩
      obtain ⟨hO,hb⟩:=uh hq
      rw [if_pos rfl]
      have hll:((List.range N).map (fun i => (fun x => x % 4294967296) (atP 4 rw i))).length = N:=by rw [List.length_map,List.length_range]
      refine ⟨(1,[],(List.range N).map (fun i => (fun x => x % 4294967296) (atP 4 rw i)),[],[]),⟨none,0,q,d,none,0,none,0⟩,true,by simp only [hll]; rfl,hide ⟨rfl,rfl,tenT_f ((own_ls hO hll).ints (fun x hx => ?_)) (by rw [hll]; exact own_tag hO),hb⟩⟩
      obtain ⟨i,_,rfl⟩:=List.mem_map.1 hx
      exact u32_wf7 (Int.emod_nonneg _ (by decide)) (Int.emod_lt_of_pos _ (by decide))
     ·refine (ctenIr_any qf cf qs cs qn cn qr cr rw N w i4 (by have:widthV 7 = 8:=rfl; rw [this] at hl; omega) hN).mono ?_
      rintro e w' ⟨q,d,rfl,hq⟩
      obtain ⟨hO,hb⟩:=uh hq
      rw [if_neg (by decide),if_pos rfl]
      have hll:((List.range N).map (fun i => i64w (atP 8 rw i))).length = N:=by rw [List.length_map,List.length_range]
      refine ⟨(7,[],[],(List.range N).map (fun i => i64w (atP 8 rw i)),[]),⟨none,0,none,0,q,d,none,0⟩,true,by simp only [hll]; rfl,hide ⟨rfl,rfl,tenT_i ((own_ls hO hll).ints (fun x hx => ?_)) (by rw [hll]; exact own_tag hO),hb⟩⟩
      obtain ⟨i,_,rfl⟩:=List.mem_map.1 hx
      exact i64w_wf _
     ·refine (ctenBr_any qf cf qs cs qn cn qr cr rw N w i4 (by have:widthV 9 = 1:=rfl; rw [this] at hl; omega) hN).mono ?_
      rintro e w' ⟨q,d,rfl,hq⟩
      obtain ⟨hO,hb⟩:=uh hq
      rw [if_neg (by decide),if_neg (by decide)]
      exact ⟨(9,[],[],[],trV ((List.range N).map (fun i => i64w (atP 1 rw i)))),⟨none,0,none,0,none,0,q,d⟩,_,rfl,hide ⟨rfl,rfl,tenT_b (own_ls hO rfl) (own_tag hO),hb⟩⟩
    ·rw [if_pos hl]
     refine (ctenX2_any qf cf qs cs qn cn qr rw.length cr kind N w ?_ hl).mono ?_
     ·rcases known_cases hk with rfl | rfl | rfl
      ·rw [show widthV 1 = 4 from rfl,IntKind.wrap_i64]; omega
      ·rw [show widthV 7 = 8 from rfl,IntKind.wrap_i64]; omega
      ·rw [show widthV 9 = 1 from rfl,IntKind.wrap_i64]; omega
     ·rintro e w' ⟨rfl,hb⟩
      exact ⟨noTen,noTA,false,rfl,hide ⟨rfl,rfl,tenT_0 _ _,hb⟩⟩
theorem ms_ok {g:Nat} {w:World} {q:Option Addr} {d:Nat} {L:List FA} (h:MsIn g w q d L):OkL (L.map FA.f):=fun f hf => by
 obtain ⟨a,ha,rfl⟩:=List.mem_map.1 hf
 have hx:=(h.1.2 a ha).2.2.1
 have hd:=(h.1.2 a ha).2.2.2.2.2.1
 simp [Lit.wf,IntKind.min,IntKind.max,IntKind.signed,IntKind.bits] at hx
 exact ⟨hx.1,by have:=hx.2; show a.x < _; omega,wf_isB hd⟩
theorem Kept.stay {TS:List TypeId} {B g:Nat} {w w':World} {f:F3} (s:Stay g w w') (hw:FlB g w f) (hB:B ≤ g) (hne:¬ 62 ∈ TS):Kept TS B w w':=by
 refine ⟨s.1.size,fun b hb _ => s.1.block b (by omega),fun b cur t ht hh => ?_⟩
 have hb:b ≠ g:=fun e => by
  subst e
  have h2:w.heap[b]? = _:=hw
  rw [hh] at h2
  simp only [Option.some.injEq,Obj.cells.injEq] at h2
  exact hne (h2.2.1 ▸ ht)
 exact (s.block hb (lt_of_block hh)).trans hh
theorem attrW_eq (nm:Str) (kd f i:Int) (s:Str) (T:TenD) (fl il:List Int):attrW (nm,kd,f,i,s,T,fl,il) = f3 (f3 (f3 (longW nm) (bad3 (kd != 1 && (f != 0) || kd != 2 && (i != 0) || kd != 3 && !(strOfNums s).toList.isEmpty || kd != 4 && !emptyT T || kd != 6 && decide (0 < fl.length) || kd != 7 && decide (0 < il.length)))) (big3 (decide ((4096:Int) < (s.length:Int)) || decide ((4096:Int) < (fl.length:Int)) || decide ((4096:Int) < (il.length:Int))))) (if kd = 1 ∨ kd = 2 ∨ kd = 3 ∨ kd = 6 ∨ kd = 7 then no3 else if kd = 4 then tensW T else bad3 true):=by
 unfold attrW
 simp only
 rw [fAll_cons,fAll_cons,fAll_cons,fAll_cons,str_isE]
 show f3 _ (f3 _ (f3 _ (f3 _ no3))) = _
 rw [f3_no,← f3_assoc,← f3_assoc]
 congr 2
 ·congr 2
  simp only [decide_not]
 ·congr 1
  rw [Bool.eq_iff_iff]
  simp only [decide_eq_true_eq,Bool.or_eq_true]
  omega
theorem rattrW_any (g:Nat) (a:AtA) (k:F3) {B:Nat} (w:World) (hw:FlB g w k) (h:AtIn B w a) (hB:B ≤ g) (hs:TenSm a.T) :
  Calls Tryz.prog 103 #[.pointer (some ⟨g,0,none⟩),.agg (atCells a).toArray] w fun e w' => e = .returned (.tuple #[]) ∧ FE g (attrW a.d) w w':=by
 obtain ⟨nm,kd,f,i,s,T,A,fl,qf,cf,il,qi,ci⟩:=a
 have hT:=h.2.2.2.2.2.1
 simp only at hT hs
 have CT:=hide (fun v (hv:Stay g w v) k2 (h2:FlB g v k2) => rwrong_any g T A k2 v h2 (hT.kept (fun t ht => ht) (Kept.stay hv hw hB (by decide))).1 hs)
 have C2:=hide (fun v => rempty_any T A v hs)
 have HW:=attrW_eq nm kd f i s T fl il
 unfold AtA.d
 simp only
 obtain ⟨ty,ds,fs,is,bs⟩:=T
 obtain ⟨pd,cd,pf,cff,pi,cii,pb,cb⟩:=A
 unfold tenV tenCells at CT C2
 simp only at CT C2
 have hcl:(4:Int) ≠ 1:=by decide
 show Calls Tryz.prog _ #[_,.agg #[.string (strOfNums nm),.int .i64 kd,.int .u32 f,.int .i64 i,.string (strOfNums s),.int .i64 ty,.slice pd ds.length cd,.slice pf fs.length cff,.slice pi is.length cii,.slice pb bs.length cb,.slice qf fl.length cf,.slice qi il.length ci]] w _
 by_cases h5:kd = 1 ∨ kd = 2 ∨ kd = 3 ∨ kd = 6 ∨ kd = 7
 ·rw [if_pos h5,f3_no] at HW
  exact rattr5_any g nm s kd f i ty ds.length fs.length is.length bs.length fl.length il.length pd pf pi pb qf qi cd cff cii cb cf ci k w hw _ _ _ _ _ _ _ _ _ rfl rfl rfl (by rw [decide_eq_decide]; omega) (by rw [decide_eq_decide]; omega) rfl rfl rfl rfl rfl C2 _ (hide HW) h5
 ·rw [if_neg h5] at HW
  by_cases h4:kd = 4
  ·rw [if_pos h4] at HW
   refine rattr4_any g nm s kd f i ty ds.length fs.length is.length bs.length fl.length il.length pd pf pi pb qf qi cd cff cii cb cf ci k w hw _ _ _ _ _ _ _ _ _ rfl rfl rfl (by rw [decide_eq_decide]; omega) (by rw [decide_eq_decide]; omega) rfl rfl rfl rfl rfl C2 _ h4 (hide (fun v hv => ?_))
   refine (uh CT v hv.1 _ (hv.2 k hw)).mono fun e u hh => ?_
   obtain ⟨he,h2⟩:=hh
   exact ⟨he,(hv.trans h2).eq HW.symm⟩
  ·rw [if_neg h4] at HW
   have q:∀ c:Int,¬ kd = c → (kd != c) = true ∧ (kd == c) = false:=fun c hc => ⟨by simp [hc],by simp [hc]⟩
   have q1:=q 1 (fun e => h5 (.inl e))
   have q2:=q 2 (fun e => h5 (.inr (.inl e)))
   have q3:=q 3 (fun e => h5 (.inr (.inr (.inl e))))
   have q6:=q 6 (fun e => h5 (.inr (.inr (.inr (.inl e)))))
   have q7:=q 7 (fun e => h5 (.inr (.inr (.inr (.inr e)))))
   have q4:=q 4 h4
   exact rattr0_any g nm s kd f i ty ds.length fs.length is.length bs.length fl.length il.length pd pf pi pb qf qi cd cff cii cb cf ci k w hw _ _ _ _ _ _ _ _ _ rfl rfl rfl (by rw [decide_eq_decide]; omega) (by rw [decide_eq_decide]; omega) rfl rfl rfl rfl rfl C2 _ (hide HW) q1.1 q2.1 q3.1 q4.1 q6.1 q7.1 q1.2 q2.2 q3.2 q4.2 q6.2 q7.2
theorem fAll_take {α:Type} (W:α → F3) (l:List α) {n:Nat} {x:α} (z:α) (h:n < l.length) (hx:l.getD n z = x):fAll ((l.take (n + 1)).map W) = f3 (fAll ((l.take n).map W)) (W x):=by
 have e:l[n]? = some x:=by rw [List.getElem?_eq_getElem h,← hx,List.getD_eq_getElem?_getD,List.getElem?_eq_getElem h]; rfl
 rw [List.take_add_one,e,List.map_append,fAll_append]
 show f3 _ (fAll [W x]) = _
 rw [fAll_cons]
 show f3 _ (f3 (W x) no3) = _
 rw [f3_no]
theorem row3 {v:World} {b o c:Nat} {l:List VaA} {n:Nat} (h:Rc 3 vaCells noVaA v (some ⟨b,o,none⟩) c l) (hn:n < l.length):v.cell? ⟨b,o + n * 3,none⟩ = some (.string (strOfNums (l.getD n noVaA).nm)) ∧ v.cell? ⟨b,o + n * 3 + 1,none⟩ = some (.int .i64 (l.getD n noVaA).ty) ∧ v.cell? ⟨b,o + n * 3 + 2,none⟩ = some (.slice (l.getD n noVaA).q (l.getD n noVaA).ds.length (l.getD n noVaA).c):=by
 obtain ⟨b',o',e,_,hc⟩:=h.lies (by omega)
 simp only [Option.some.injEq,Addr.mk.injEq] at e
 obtain ⟨rfl,rfl,_⟩:=e
 exact ⟨hc n hn 0 _ rfl,hc n hn 1 _ rfl,hc n hn 2 _ rfl⟩
theorem valW_eq (x:VaA) (P:F3):f3 P (valW x.d) = f3 (f3 (f3 P (longW x.nm)) (bad3 (!knownB x.ty))) (dimsW x.ds):=by
 unfold valW VaA.d
 simp only
 rw [fAll_cons,fAll_cons,fAll_cons]
 show f3 P (f3 _ (f3 _ (f3 _ no3))) = _
 rw [f3_no,← f3_assoc,← f3_assoc]
theorem val_step (l:List VaA) {n:Nat} (h:n < l.length) (Q:F3):f3 Q (fAll ((l.take (n + 1)).map fun x => valW x.d)) = f3 (f3 (f3 (f3 Q (fAll ((l.take n).map fun x => valW x.d))) (longW (l.getD n noVaA).nm)) (bad3 (!knownB (l.getD n noVaA).ty))) (dimsW (l.getD n noVaA).ds):=by
 rw [fAll_take (fun x:VaA => valW x.d) l noVaA h rfl,← f3_assoc]
 exact valW_eq _ _
theorem rvalsW_any (g:Nat) (p:Option Addr) (c:Nat) (l:List VaA) (k:F3) {B:Nat} (w:World) (hw:FlB g w k) (hB:B ≤ g) (hl:Rc 3 vaCells noVaA w p c l) (ht:Tag 52 B w p l.length) (hi:∀ x ∈ l,VaIn B w x) :
  Calls Tryz.prog 52 #[.pointer (some ⟨g,0,none⟩),.slice p l.length c] w fun e w' => e = .returned (.tuple #[]) ∧ FE g (valuesW (l.map VaA.d)) w w':=by
 have HV:Hid (valuesW (l.map VaA.d) = f3 (big3 (decide ((64:Int) < (l.length:Int)))) (fAll (l.map fun x => valW x.d))):=hide (by
  unfold valuesW
  rw [fAll_cons,List.map_map,List.length_map]
  congr 2
  rw [decide_eq_decide]; omega)
 obtain ⟨F,hF⟩:∃ F,valuesW (l.map VaA.d) = F:=⟨_,rfl⟩
 rw [hF] at HV ⊢
 clear hF
 have nl:=hl.len
 have HL:=hide (fun v (hv:Stay g w v) => hl.kept ht (by simp [modelTS]) (Kept.stay (TS:=modelTS) hv hw hB (by decide)))
 have HI:=hide (fun n (hn:n < l.length) v (hv:Stay g w v) => (hi _ (getD_mem7 (z:=noVaA) hn)).kept (by simp [modelTS]) (Kept.stay (TS:=modelTS) hv hw hB (by decide)))
 have HW:=hide hw
 have x1:=Box.cell hw
 have x2:=Box.frozen hw
 have x3:=Box.lt hw
 clear hl ht hi hw
 obtain ⟨D,hD⟩:∃ D,decide ((64:Int) < (l.length:Int)) = D:=⟨_,rfl⟩
 rw [hD] at HV
 have START:Hid (FE g (f3 (big3 D) (fAll ((l.take 0).map fun x => valW x.d))) w (if D = true then w.setCell ⟨g,2,none⟩ (.bool true) else w)):=hide (by
  cases D
  ·exact (FE.refl g w).eq rfl
  ·exact (FE.big g w).eq rfl)
 cases D
 all_goals
  simp only [Bool.false_eq_true,if_false,if_true] at START
  go_enter Tryz.func52,Tryz.ntmps52
  go_wp2_with fail
  go_loopw [4] (fun iv wr => ∃ n:Nat,iv = .int .i64 n ∧ n ≤ l.length ∧ Hid (FE g (f3 (big3 _) (fAll ((l.take n).map fun x => valW x.d))) w wr)) (fun iv _ => l.length - (intOf iv).toNat)
  case atStart => exact ⟨0,rfl,by omega,START⟩
  case round =>
   obtain ⟨n,rfl,hn,R⟩:=hrel
   by_cases hlt:n < l.length
   ·have hin:(n:Int) < (l.length:Int):=by omega
    obtain ⟨b,o,rfl,hb,hc⟩:=(uh HL _ (uh R).1).lies (by omega)
    clear hc hb
    have HC:=hide (fun v (hv:Stay g w v) => row3 (uh HL v hv) hlt)
    have HX:=hide (uh HI n hlt)
    have HT:=hide (val_step l hlt)
    have FK:=hide ((uh R).2 k (uh HW))
    generalize l.getD n noVaA = x at HC HX HT
    obtain ⟨xnm,xty,xds,xq,xc⟩:=x
    simp only at HC HT
    obtain ⟨c0,c1,c2⟩:=uh HC wr (uh R).1
    have C1:=hide (rlong_any g xnm _ wr (uh FK))
    unfold strV at C1
    clear x1 x2 START
    go_wp2_with fail
    refine (uh C1).mono ?_
    rintro e w1 ⟨rfl,h1⟩
    have S1:=hide ((uh R).1.trans h1.1)
    have F1:=hide (h1.2 _ (uh FK))
    have R1:=hide ((uh R).trans h1)
    clear c0 c1 c2 C1 h1
    obtain ⟨c0,c1,c2⟩:=uh HC w1 (uh S1)
    have C2:=hide (rknown7_any xty w1 (uh HX w1 (uh S1)).2.1)
    cases hk:knownB xty
    ·rw [hk] at C2 HT
     have g1:=(uh F1).cell
     have g2:=(uh F1).frozen
     have g3:=(uh F1).lt
     have S2:=hide ((uh S1).trans (FE.bad g w1).1)
     have F2:=hide ((FE.bad g w1).2 _ (uh F1))
     have R2:=hide ((uh R1).trans (FE.bad g w1))
     obtain ⟨d0,d1,d2⟩:=uh HC _ (uh S2)
     have C3:=hide (rdimsOf_any g xq xc xds _ _ (uh F2) (uh HX _ (uh S2)).2.2.1)
     go_wp2_with fail
     refine (uh C2).mono ?_
     rintro e v ⟨rfl,hv⟩
     replace hv:=hv.symm
     subst hv
     go_wp2_with fail
     refine (uh C3).mono ?_
     rintro e w3 ⟨rfl,h3⟩
     have R3:=hide (((uh R2).trans h3).eq (uh HT _).symm)
     clear h3 C3 C2 c0 c1 c2 d0 d1 d2 g1 g2
     go_wp2_with fail
     go_roundw
     case rel => exact ⟨n + 1,by go_num,by omega,R3⟩
     case measure => simp [intOf]; omega
    ·rw [hk] at C2 HT
     have C3:=hide (rdimsOf_any g xq xc xds _ _ (uh F1) (uh HX _ (uh S1)).2.2.1)
     go_wp2_with fail
     refine (uh C2).mono ?_
     rintro e v ⟨rfl,hv⟩
     replace hv:=hv.symm
     subst hv
     go_wp2_with fail
     refine (uh C3).mono ?_
     rintro e w3 ⟨rfl,h3⟩
     have HT2:Hid (∀ Q:F3,f3 Q (fAll ((l.take (n + 1)).map fun x => valW x.d)) = f3 (f3 (f3 Q (fAll ((l.take n).map fun x => valW x.d))) (longW xnm)) (dimsW xds)):=hide (fun Q => by rw [uh HT Q,Bool.not_true,bad3_no,f3_no])
     have R3:=hide (((uh R1).trans h3).eq (uh HT2 _).symm)
     clear h3 C3 C2 c0 c1 c2
     go_wp2_with fail
     go_roundw
     case rel => exact ⟨n + 1,by go_num,by omega,R3⟩
     case measure => simp [intOf]; omega
   ·have hin:¬ (n:Int) < (l.length:Int):=by omega
    have HE:Hid (FE g F w wr):=hide ((uh R).eq (by rw [uh HV,List.take_of_length_le (by omega)]))
    clear x1 x2 START
    go_wp2_with fail
    go_end0
    exact ⟨rfl,uh HE⟩
end Go.Proofs.YtmdlaahdgjegcaaGreat
