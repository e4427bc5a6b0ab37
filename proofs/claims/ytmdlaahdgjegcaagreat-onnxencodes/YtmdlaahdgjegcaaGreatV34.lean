import Derived.Test.YtmdlaahdgjegcaaGreatV02
import Derived.Test.YtmdlaahdgjegcaaGreatV27
import Derived.Test.YtmdlaahdgjegcaaGreatV33
set_option maxRecDepth 100000
set_option maxHeartbeats 8000000
namespace Go.Proofs.YtmdlaahdgjegcaaGreat
open Go.RowKit
set_option linter.unusedVariables false
theorem ctenX1_any (qf:Option Addr) (nf cf:Nat) (qs:Option Addr) (ns cs:Nat) (qn:Option Addr) (nn cn:Nat) (qr:Option Addr) (nr cr:Nat) (kind:Int) (N:Nat) (w:World) (h1:nf ≤ 100000000) (h2:ns ≤ 100000000) (h3:nn ≤ 100000000) (hp:0 < nf + ns + nn) :
  Calls Tryz.prog 185 #[.agg #[.slice qf nf cf,.slice qs ns cs,.slice qn nn cn,.slice qr nr cr,.bool true],.int .i64 kind,.int .i64 N] w fun e w' => e = .returned (.tuple #[.agg #[.int .i64 0,.slice none 0 0,.slice none 0 0,.slice none 0 0,.slice none 0 0],.bool false]) ∧ Below w.heap.size w w':=by
 have CL:=hide (fun v => clisted_any qf nf cf qs ns cs qn nn cn qr nr cr true v h1 h2 h3)
 have hd:decide ((0:Int) < (nf:Int) + (ns:Int) + (nn:Int)) = true:=decide_eq_true (by omega)
 have B0:=hide (al2p w (Obj.cells #[.slice qf nf cf,.slice qs ns cs,.slice qn nn cn,.slice qr nr cr,.bool true] 228) (Obj.cells #[.int .i64 0,.slice none 0 0,.slice none 0 0,.slice none 0 0,.slice none 0 0] 80))
 have XS:=hide ((Box.new w #[.slice qf nf cf,.slice qs ns cs,.slice qn nn cn,.slice qr nr cr,.bool true] 228).alloc (Obj.cells #[.int .i64 0,.slice none 0 0,.slice none 0 0,.slice none 0 0,.slice none 0 0] 80))
 have XR:Hid (Box ((w.alloc (Obj.cells #[.slice qf nf cf,.slice qs ns cs,.slice qn nn cn,.slice qr nr cr,.bool true] 228)).alloc (Obj.cells #[.int .i64 0,.slice none 0 0,.slice none 0 0,.slice none 0 0,.slice none 0 0] 80)) (w.heap.size + 1) #[.int .i64 0,.slice none 0 0,.slice none 0 0,.slice none 0 0,.slice none 0 0] 80):=hide (by have h:=Box.new (w.alloc (Obj.cells #[.slice qf nf cf,.slice qs ns cs,.slice qn nn cn,.slice qr nr cr,.bool true] 228)) #[.int .i64 0,.slice none 0 0,.slice none 0 0,.slice none 0 0,.slice none 0 0] 80; rw [alloc_size6] at h; exact h)
 have HP:=hide hp
 clear hp
 go_enter Tryz.func185,Tryz.ntmps185
 go_wp2_with fail
 generalize (w.alloc (Obj.cells #[.slice qf nf cf,.slice qs ns cs,.slice qn nn cn,.slice qr nr cr,.bool true] 228)).alloc (Obj.cells #[.int .i64 0,.slice none 0 0,.slice none 0 0,.slice none 0 0,.slice none 0 0] 80) = W at B0 XS XR ⊢
 refine wp_region_below (by kernel_rfl) (by kernel_rfl) ?_
 intro TT f hne hfb hfc
 have xs:∀ x j,(f x).cell? ⟨w.heap.size,j,none⟩ = (#[.slice qf nf cf,.slice qs ns cs,.slice qn nn cn,.slice qr nr cr,.bool true]:Array Value)[j]?:=fun x => ((uh XS).below (hfb x)).cell
 have HFB:=hide hfb
 have HFC:=hide hfc
 clear hfb hfc
 repeat (go_big_quiet_step (first | (go_at_call 235; exact calls_qb (uh HFB) (uh HFC) (uh CL _))))
 refine wpQuiet_nil ?_
 intro x
 have B1:=hide (bl_tr (uh B0) (uh HFB x))
 have XS1:=hide ((uh XS).below (uh HFB x))
 have XR1:=hide ((uh XR).below (uh HFB x))
 have ys:=(uh XS1).cell
 have yr:=(uh XR1).cell
 have gr:=(uh XR1).frozen
 clear xs
 generalize f x = w1 at B1 XS1 XR1 ys yr gr ⊢
 go_wp2_with fail
 have Y5:=hide ((uh XR1).set5 (.int .i64 0) (.slice none 0 0) (.slice none 0 0) (.slice none 0 0) (.slice none 0 0))
 have B5:=hide (bset5 (uh B1) (show w.heap.size ≤ w.heap.size + 1 by omega) (.int .i64 0) (.slice none 0 0) (.slice none 0 0) (.slice none 0 0) (.slice none 0 0))
 refine bodyPost_ret ?_ rfl ⟨rfl,uh B5⟩
 simp [results,Tryz.results185,go_sem,(uh Y5).cell]
theorem ctenX2_any (qf:Option Addr) (cf:Nat) (qs:Option Addr) (cs:Nat) (qn:Option Addr) (cn:Nat) (qr:Option Addr) (nr cr:Nat) (kind:Int) (N:Nat) (w:World) (hw:IntKind.i64.wrap ((N:Int) * widthV kind) = (N:Int) * widthV kind) (hp:(nr:Int) ≠ (N:Int) * widthV kind) :
  Calls Tryz.prog 185 #[.agg #[.slice qf 0 cf,.slice qs 0 cs,.slice qn 0 cn,.slice qr nr cr,.bool true],.int .i64 kind,.int .i64 N] w fun e w' => e = .returned (.tuple #[.agg #[.int .i64 0,.slice none 0 0,.slice none 0 0,.slice none 0 0,.slice none 0 0],.bool false]) ∧ Below w.heap.size w w':=by
 have CL:=hide (fun v => clisted_any qf 0 cf qs 0 cs qn 0 cn qr nr cr true v (by omega) (by omega) (by omega))
 have CK:=hide (fun v => cwidth_any kind v)
 have c1:((nr:Int) != (N:Int) * widthV kind) = true:=by simpa using hp
 generalize widthV kind = c at hw c1 CK
 have B0:=hide (al2p w (Obj.cells #[.slice qf 0 cf,.slice qs 0 cs,.slice qn 0 cn,.slice qr nr cr,.bool true] 228) (Obj.cells #[.int .i64 0,.slice none 0 0,.slice none 0 0,.slice none 0 0,.slice none 0 0] 80))
 have XS:=hide ((Box.new w #[.slice qf 0 cf,.slice qs 0 cs,.slice qn 0 cn,.slice qr nr cr,.bool true] 228).alloc (Obj.cells #[.int .i64 0,.slice none 0 0,.slice none 0 0,.slice none 0 0,.slice none 0 0] 80))
 have XR:Hid (Box ((w.alloc (Obj.cells #[.slice qf 0 cf,.slice qs 0 cs,.slice qn 0 cn,.slice qr nr cr,.bool true] 228)).alloc (Obj.cells #[.int .i64 0,.slice none 0 0,.slice none 0 0,.slice none 0 0,.slice none 0 0] 80)) (w.heap.size + 1) #[.int .i64 0,.slice none 0 0,.slice none 0 0,.slice none 0 0,.slice none 0 0] 80):=hide (by have h:=Box.new (w.alloc (Obj.cells #[.slice qf 0 cf,.slice qs 0 cs,.slice qn 0 cn,.slice qr nr cr,.bool true] 228)) #[.int .i64 0,.slice none 0 0,.slice none 0 0,.slice none 0 0,.slice none 0 0] 80; rw [alloc_size6] at h; exact h)
 clear hp
 go_enter Tryz.func185,Tryz.ntmps185
 go_wp2_with fail
 generalize (w.alloc (Obj.cells #[.slice qf 0 cf,.slice qs 0 cs,.slice qn 0 cn,.slice qr nr cr,.bool true] 228)).alloc (Obj.cells #[.int .i64 0,.slice none 0 0,.slice none 0 0,.slice none 0 0,.slice none 0 0] 80) = W at B0 XS XR ⊢
 refine wp_region_below (by kernel_rfl) (by kernel_rfl) ?_
 intro TT f hne hfb hfc
 have xs:∀ x j,(f x).cell? ⟨w.heap.size,j,none⟩ = (#[.slice qf 0 cf,.slice qs 0 cs,.slice qn 0 cn,.slice qr nr cr,.bool true]:Array Value)[j]?:=fun x => ((uh XS).below (hfb x)).cell
 have HFB:=hide hfb
 have HFC:=hide hfc
 clear hfb hfc
 repeat (go_big_quiet_step (first | (go_at_call 235; exact calls_qb (uh HFB) (uh HFC) (uh CL _)) | (go_at_call 138; exact calls_qs (uh CK _))))
 refine wpQuiet_nil ?_
 intro x
 have B1:=hide (bl_tr (uh B0) (uh HFB x))
 have XS1:=hide ((uh XS).below (uh HFB x))
 have XR1:=hide ((uh XR).below (uh HFB x))
 have ys:=(uh XS1).cell
 have yr:=(uh XR1).cell
 have gr:=(uh XR1).frozen
 clear xs
 generalize f x = w1 at B1 XS1 XR1 ys yr gr ⊢
 go_wp2_with fail
 have Y5:=hide ((uh XR1).set5 (.int .i64 0) (.slice none 0 0) (.slice none 0 0) (.slice none 0 0) (.slice none 0 0))
 have B5:=hide (bset5 (uh B1) (show w.heap.size ≤ w.heap.size + 1 by omega) (.int .i64 0) (.slice none 0 0) (.slice none 0 0) (.slice none 0 0) (.slice none 0 0))
 refine bodyPost_ret ?_ rfl ⟨rfl,uh B5⟩
 simp [results,Tryz.results185,go_sem,(uh Y5).cell]
theorem ctenFr_any (qf:Option Addr) (cf:Nat) (qs:Option Addr) (cs:Nat) (qn:Option Addr) (cn:Nat) (qr:Option Addr) (cr:Nat) (rw:List Int) (N:Nat) (w:World) (hr:Ints .u8 w qr cr rw) (hl:rw.length = N * 4) (hN:N ≤ 4096) :
  Calls Tryz.prog 185 #[.agg #[.slice qf 0 cf,.slice qs 0 cs,.slice qn 0 cn,.slice qr rw.length cr,.bool true],.int .i64 1,.int .i64 N] w fun e w' => ∃ q d,e = .returned (.tuple #[.agg #[.int .i64 1,.slice none 0 0,.slice q N d,.slice none 0 0,.slice none 0 0],.bool true]) ∧ Hid (w'.ownsRow w.heap.size 84 1 (.slice q N d) N (((List.range N).map (fun i => (fun x => x % 4294967296) (atP 4 rw i))).map (Value.int .u32)) ∧ Below w.heap.size w w'):=by
 have CL:=hide (fun v => clisted_any qf 0 cf qs 0 cs qn 0 cn qr rw.length cr true v (by omega) (by omega) (by omega))
 have CK:=hide (fun v => cwidth_any 1 v)
 rw [show widthV 1 = 4 from rfl] at CK
 have CU:=hide (fun v (hv:Below w.heap.size w v) => ccutF_any qr cr rw N v (hr.below hv) hl (by omega))
 have hw:IntKind.i64.wrap ((N:Int) * 4) = (N:Int) * 4:=by rw [IntKind.wrap_i64]; omega
 have c1:((rw.length:Int) != (N:Int) * 4) = false:=by simp; omega
 have hrl:rw.length ≤ 100000:=by omega
 generalize rw.length = nr at CL CU c1 hrl ⊢
 clear hr hl
 generalize (List.range N).map (fun i => (fun x => x % 4294967296) (atP 4 rw i)) = XX at CU ⊢
 have B0:=hide (al2p w (Obj.cells #[.slice qf 0 cf,.slice qs 0 cs,.slice qn 0 cn,.slice qr nr cr,.bool true] 228) (Obj.cells #[.int .i64 0,.slice none 0 0,.slice none 0 0,.slice none 0 0,.slice none 0 0] 80))
 have XS:=hide ((Box.new w #[.slice qf 0 cf,.slice qs 0 cs,.slice qn 0 cn,.slice qr nr cr,.bool true] 228).alloc (Obj.cells #[.int .i64 0,.slice none 0 0,.slice none 0 0,.slice none 0 0,.slice none 0 0] 80))
 have XR:Hid (Box ((w.alloc (Obj.cells #[.slice qf 0 cf,.slice qs 0 cs,.slice qn 0 cn,.slice qr nr cr,.bool true] 228)).alloc (Obj.cells #[.int .i64 0,.slice none 0 0,.slice none 0 0,.slice none 0 0,.slice none 0 0] 80)) (w.heap.size + 1) #[.int .i64 0,.slice none 0 0,.slice none 0 0,.slice none 0 0,.slice none 0 0] 80):=hide (by have h:=Box.new (w.alloc (Obj.cells #[.slice qf 0 cf,.slice qs 0 cs,.slice qn 0 cn,.slice qr nr cr,.bool true] 228)) #[.int .i64 0,.slice none 0 0,.slice none 0 0,.slice none 0 0,.slice none 0 0] 80; rw [alloc_size6] at h; exact h)
 go_enter Tryz.func185,Tryz.ntmps185
 go_wp2_with fail
 generalize (w.alloc (Obj.cells #[.slice qf 0 cf,.slice qs 0 cs,.slice qn 0 cn,.slice qr nr cr,.bool true] 228)).alloc (Obj.cells #[.int .i64 0,.slice none 0 0,.slice none 0 0,.slice none 0 0,.slice none 0 0] 80) = W at B0 XS XR ⊢
 refine wp_region_below (by kernel_rfl) (by kernel_rfl) ?_
 intro TT f hne hfb hfc
 have xs:∀ x j,(f x).cell? ⟨w.heap.size,j,none⟩ = (#[.slice qf 0 cf,.slice qs 0 cs,.slice qn 0 cn,.slice qr nr cr,.bool true]:Array Value)[j]?:=fun x => ((uh XS).below (hfb x)).cell
 have HFB:=hide hfb
 have HFC:=hide hfc
 clear hfb hfc
 repeat (go_big_quiet_step (first | (go_at_call 235; exact calls_qb (uh HFB) (uh HFC) (uh CL _)) | (go_at_call 138; exact calls_qs (uh CK _))))
 refine wpQuiet_nil ?_
 intro x
 have B1:=hide (bl_tr (uh B0) (uh HFB x))
 have XS1:=hide ((uh XS).below (uh HFB x))
 have XR1:=hide ((uh XR).below (uh HFB x))
 have ys:=(uh XS1).cell
 have yr:=(uh XR1).cell
 have gr:=(uh XR1).frozen
 clear xs
 generalize f x = w1 at B1 XS1 XR1 ys yr gr ⊢
 go_wp2_with fail
 refine (uh CU _ (uh B1)).mono ?_
 rintro e w2 ⟨q1,d1,rfl,hq⟩
 obtain ⟨hO,hb⟩:=uh hq
 have OR2:=hide hO
 have B2:=hide (bl_tr (uh B1) hb)
 have XS2:=hide ((uh XS1).below hb)
 have XR2:=hide ((uh XR1).below hb)
 have x2:=(uh XS2).cell
 have f2:=(uh XS2).frozen
 have lw:w.heap.size < w1.heap.size:=(uh XS1).lt
 have lw1:w.heap.size + 1 < w1.heap.size:=(uh XR1).lt
 have lw2:w1.heap.size ≤ w2.heap.size:=hb.size
 clear hq hO hb ys yr gr B0 XS XR B1 XS1 XR1
 have Bs:=hide (bset5 (uh B2) (Nat.le_refl w.heap.size) (.slice q1 N d1) (.slice none 0 0) (.slice none 0 0) (.slice none 0 0) (.bool false))
 have XSs:=hide ((uh XS2).set5 (.slice q1 N d1) (.slice none 0 0) (.slice none 0 0) (.slice none 0 0) (.bool false))
 have XRs:=hide ((uh XR2).off5 (show w.heap.size + 1 ≠ w.heap.size by omega) (.slice q1 N d1) (.slice none 0 0) (.slice none 0 0) (.slice none 0 0) (.bool false))
 have ORs:=hide (ownsRow_set5 (uh OR2) lw (.slice q1 N d1) (.slice none 0 0) (.slice none 0 0) (.slice none 0 0) (.bool false))
 have hsz:(((((w2.setCell ⟨w.heap.size,0,none⟩ (.slice q1 N d1)).setCell ⟨w.heap.size,1,none⟩ (.slice none 0 0)).setCell ⟨w.heap.size,2,none⟩ (.slice none 0 0)).setCell ⟨w.heap.size,3,none⟩ (.slice none 0 0)).setCell ⟨w.heap.size,4,none⟩ (.bool false)).heap.size = w2.heap.size:=by simp [World.setCell]
 have B3:=hide (bl_tr (uh Bs) (al1p _ (Obj.cells #[.int .i64 1,.slice none 0 0,.slice q1 N d1,.slice none 0 0,.slice none 0 0] 80)))
 have XS3:=hide ((uh XSs).alloc (Obj.cells #[.int .i64 1,.slice none 0 0,.slice q1 N d1,.slice none 0 0,.slice none 0 0] 80))
 have XR3:=hide ((uh XRs).alloc (Obj.cells #[.int .i64 1,.slice none 0 0,.slice q1 N d1,.slice none 0 0,.slice none 0 0] 80))
 have OR3:=hide (ownsRow_bel (uh ORs) (by omega) (al1p _ (Obj.cells #[.int .i64 1,.slice none 0 0,.slice q1 N d1,.slice none 0 0,.slice none 0 0] 80)))
 have XT3:Hid (Box ((((((w2.setCell ⟨w.heap.size,0,none⟩ (.slice q1 N d1)).setCell ⟨w.heap.size,1,none⟩ (.slice none 0 0)).setCell ⟨w.heap.size,2,none⟩ (.slice none 0 0)).setCell ⟨w.heap.size,3,none⟩ (.slice none 0 0)).setCell ⟨w.heap.size,4,none⟩ (.bool false)).alloc (Obj.cells #[.int .i64 1,.slice none 0 0,.slice q1 N d1,.slice none 0 0,.slice none 0 0] 80)) w2.heap.size #[.int .i64 1,.slice none 0 0,.slice q1 N d1,.slice none 0 0,.slice none 0 0] 80):=hide (by have h:=Box.new (((((w2.setCell ⟨w.heap.size,0,none⟩ (.slice q1 N d1)).setCell ⟨w.heap.size,1,none⟩ (.slice none 0 0)).setCell ⟨w.heap.size,2,none⟩ (.slice none 0 0)).setCell ⟨w.heap.size,3,none⟩ (.slice none 0 0)).setCell ⟨w.heap.size,4,none⟩ (.bool false)) #[.int .i64 1,.slice none 0 0,.slice q1 N d1,.slice none 0 0,.slice none 0 0] 80; rw [hsz] at h; exact h)
 have lx:=(uh XS2).lt
 have lx1:=(uh XR2).lt
 have fx:=(uh XSs).cell
 have LW:=hide (And.intro lw (And.intro lw1 lw2))
 clear B2 XS2 XR2 OR2 Bs XSs XRs ORs hsz hw c1 hrl CK CL CU lw lw1 lw2
 go_wp2_with fail
 generalize (((((w2.setCell ⟨w.heap.size,0,none⟩ (.slice q1 N d1)).setCell ⟨w.heap.size,1,none⟩ (.slice none 0 0)).setCell ⟨w.heap.size,2,none⟩ (.slice none 0 0)).setCell ⟨w.heap.size,3,none⟩ (.slice none 0 0)).setCell ⟨w.heap.size,4,none⟩ (.bool false)).alloc (Obj.cells #[.int .i64 1,.slice none 0 0,.slice q1 N d1,.slice none 0 0,.slice none 0 0] 80) = W at B3 XS3 XR3 XT3 OR3 ⊢
 have CL:=hide (fun v => clisted_any q1 N d1 none 0 0 none 0 0 none 0 0 false v (by omega) (by omega) (by omega))
 have hne:w2.heap.size ≠ w.heap.size + 1:=by omega
 have c3:((N:Int) == (N:Int)) = true:=by simp
 have B0:=B3
 have XS:=XS3
 have XR:=XR3
 have XT:=XT3
 have xs:=(uh XS).cell
 have xt:=(uh XT).cell
 have xr:=(uh XR).cell
 have fr:=(uh XR).frozen
 have xsd:=((uh XS).below (bdrewp W)).cell
 have xtd:=((uh XT).below (bdrewp W)).cell
 have xrd:=((uh XR).below (bdrewp W)).cell
 have frd:=((uh XR).below (bdrewp W)).frozen
 go_region_held3 (fun v => (∀ j,v.cell? ⟨w.heap.size,j,none⟩ = (#[.slice q1 N d1,.slice none 0 0,.slice none 0 0,.slice none 0 0,.bool false]:Array Value)[j]?) ∧ (∀ j,v.cell? ⟨w2.heap.size,j,none⟩ = (#[.int .i64 1,.slice none 0 0,.slice q1 N d1,.slice none 0 0,.slice none 0 0]:Array Value)[j]?)) (refine ⟨?_,?_⟩ <;> with_reducible assumption)
  ((go_at_call 235; (refine (uh CL _).mono ?_; rintro e w4 ⟨rfl,hb⟩; have B1:=hide (bl_tr (uh B0) (bl_tr (bdrewp W) hb)); have BD:=hide (bl_tr (bdrewp W) hb); have XR1:=hide ((uh XR).below (bl_tr (bdrewp W) hb)); have ys:=((uh XS).below (bl_tr (bdrewp W) hb)).cell; have yt:=((uh XT).below (bl_tr (bdrewp W) hb)).cell; have yr:=(uh XR1).cell; have gr:=(uh XR1).frozen; have zs:=(((uh XS).below (bl_tr (bdrewp W) hb)).off5 (show w.heap.size ≠ w.heap.size + 1 by omega) (.int .i64 1) (.slice none 0 0) (.slice q1 N d1) (.slice none 0 0) (.slice none 0 0)).cell; have zt:=(((uh XT).below (bl_tr (bdrewp W) hb)).off5 (show w2.heap.size ≠ w.heap.size + 1 by omega) (.int .i64 1) (.slice none 0 0) (.slice q1 N d1) (.slice none 0 0) (.slice none 0 0)).cell; clear hb)))
 go_wp2_with fail
 have Y5:=hide ((uh XR1).set5 (.int .i64 1) (.slice none 0 0) (.slice q1 N d1) (.slice none 0 0) (.slice none 0 0))
 have B5:=hide (bset5 (uh B1) (show w.heap.size ≤ w.heap.size + 1 by omega) (.int .i64 1) (.slice none 0 0) (.slice q1 N d1) (.slice none 0 0) (.slice none 0 0))
 have OR5:=hide (ownsRow_base (ownsRow_set5 (ownsRow_bel (uh OR3) (by have:=(uh LW); omega) (uh BD)) (uh LW).2.1 (.int .i64 1) (.slice none 0 0) (.slice q1 N d1) (.slice none 0 0) (.slice none 0 0)) (Nat.le_of_lt (uh LW).1))
 refine bodyPost_ret ?_ rfl ⟨q1,d1,rfl,hide ⟨uh OR5,uh B5⟩⟩
 simp [results,Tryz.results185,go_sem,(uh Y5).cell]
theorem ctenIr_any (qf:Option Addr) (cf:Nat) (qs:Option Addr) (cs:Nat) (qn:Option Addr) (cn:Nat) (qr:Option Addr) (cr:Nat) (rw:List Int) (N:Nat) (w:World) (hr:Ints .u8 w qr cr rw) (hl:rw.length = N * 8) (hN:N ≤ 4096) :
  Calls Tryz.prog 185 #[.agg #[.slice qf 0 cf,.slice qs 0 cs,.slice qn 0 cn,.slice qr rw.length cr,.bool true],.int .i64 7,.int .i64 N] w fun e w' => ∃ q d,e = .returned (.tuple #[.agg #[.int .i64 7,.slice none 0 0,.slice none 0 0,.slice q N d,.slice none 0 0],.bool true]) ∧ Hid (w'.ownsRow w.heap.size 2 1 (.slice q N d) N (((List.range N).map (fun i => (i64w) (atP 8 rw i))).map (Value.int .i64)) ∧ Below w.heap.size w w'):=by
 have CL:=hide (fun v => clisted_any qf 0 cf qs 0 cs qn 0 cn qr rw.length cr true v (by omega) (by omega) (by omega))
 have CK:=hide (fun v => cwidth_any 7 v)
 rw [show widthV 7 = 8 from rfl] at CK
 have CU:=hide (fun v (hv:Below w.heap.size w v) => ccutI_any qr cr rw N v (hr.below hv) hl (by omega))
 have hw:IntKind.i64.wrap ((N:Int) * 8) = (N:Int) * 8:=by rw [IntKind.wrap_i64]; omega
 have c1:((rw.length:Int) != (N:Int) * 8) = false:=by simp; omega
 have hrl:rw.length ≤ 100000:=by omega
 generalize rw.length = nr at CL CU c1 hrl ⊢
 clear hr hl
 generalize (List.range N).map (fun i => (i64w) (atP 8 rw i)) = XX at CU ⊢
 have B0:=hide (al2p w (Obj.cells #[.slice qf 0 cf,.slice qs 0 cs,.slice qn 0 cn,.slice qr nr cr,.bool true] 228) (Obj.cells #[.int .i64 0,.slice none 0 0,.slice none 0 0,.slice none 0 0,.slice none 0 0] 80))
 have XS:=hide ((Box.new w #[.slice qf 0 cf,.slice qs 0 cs,.slice qn 0 cn,.slice qr nr cr,.bool true] 228).alloc (Obj.cells #[.int .i64 0,.slice none 0 0,.slice none 0 0,.slice none 0 0,.slice none 0 0] 80))
 have XR:Hid (Box ((w.alloc (Obj.cells #[.slice qf 0 cf,.slice qs 0 cs,.slice qn 0 cn,.slice qr nr cr,.bool true] 228)).alloc (Obj.cells #[.int .i64 0,.slice none 0 0,.slice none 0 0,.slice none 0 0,.slice none 0 0] 80)) (w.heap.size + 1) #[.int .i64 0,.slice none 0 0,.slice none 0 0,.slice none 0 0,.slice none 0 0] 80):=hide (by have h:=Box.new (w.alloc (Obj.cells #[.slice qf 0 cf,.slice qs 0 cs,.slice qn 0 cn,.slice qr nr cr,.bool true] 228)) #[.int .i64 0,.slice none 0 0,.slice none 0 0,.slice none 0 0,.slice none 0 0] 80; rw [alloc_size6] at h; exact h)
 go_enter Tryz.func185,Tryz.ntmps185
 go_wp2_with fail
 generalize (w.alloc (Obj.cells #[.slice qf 0 cf,.slice qs 0 cs,.slice qn 0 cn,.slice qr nr cr,.bool true] 228)).alloc (Obj.cells #[.int .i64 0,.slice none 0 0,.slice none 0 0,.slice none 0 0,.slice none 0 0] 80) = W at B0 XS XR ⊢
 refine wp_region_below (by kernel_rfl) (by kernel_rfl) ?_
 intro TT f hne hfb hfc
 have xs:∀ x j,(f x).cell? ⟨w.heap.size,j,none⟩ = (#[.slice qf 0 cf,.slice qs 0 cs,.slice qn 0 cn,.slice qr nr cr,.bool true]:Array Value)[j]?:=fun x => ((uh XS).below (hfb x)).cell
 have HFB:=hide hfb
 have HFC:=hide hfc
 clear hfb hfc
 repeat (go_big_quiet_step (first | (go_at_call 235; exact calls_qb (uh HFB) (uh HFC) (uh CL _)) | (go_at_call 138; exact calls_qs (uh CK _))))
 refine wpQuiet_nil ?_
 intro x
 have B1:=hide (bl_tr (uh B0) (uh HFB x))
 have XS1:=hide ((uh XS).below (uh HFB x))
 have XR1:=hide ((uh XR).below (uh HFB x))
 have ys:=(uh XS1).cell
 have yr:=(uh XR1).cell
 have gr:=(uh XR1).frozen
 clear xs
 generalize f x = w1 at B1 XS1 XR1 ys yr gr ⊢
 go_wp2_with fail
 refine (uh CU _ (uh B1)).mono ?_
 rintro e w2 ⟨q1,d1,rfl,hq⟩
 obtain ⟨hO,hb⟩:=uh hq
 have OR2:=hide hO
 have B2:=hide (bl_tr (uh B1) hb)
 have XS2:=hide ((uh XS1).below hb)
 have XR2:=hide ((uh XR1).below hb)
 have x2:=(uh XS2).cell
 have f2:=(uh XS2).frozen
 have lw:w.heap.size < w1.heap.size:=(uh XS1).lt
 have lw1:w.heap.size + 1 < w1.heap.size:=(uh XR1).lt
 have lw2:w1.heap.size ≤ w2.heap.size:=hb.size
 clear hq hO hb ys yr gr B0 XS XR B1 XS1 XR1
 have Bs:=hide (bset5 (uh B2) (Nat.le_refl w.heap.size) (.slice none 0 0) (.slice none 0 0) (.slice q1 N d1) (.slice none 0 0) (.bool false))
 have XSs:=hide ((uh XS2).set5 (.slice none 0 0) (.slice none 0 0) (.slice q1 N d1) (.slice none 0 0) (.bool false))
 have XRs:=hide ((uh XR2).off5 (show w.heap.size + 1 ≠ w.heap.size by omega) (.slice none 0 0) (.slice none 0 0) (.slice q1 N d1) (.slice none 0 0) (.bool false))
 have ORs:=hide (ownsRow_set5 (uh OR2) lw (.slice none 0 0) (.slice none 0 0) (.slice q1 N d1) (.slice none 0 0) (.bool false))
 have hsz:(((((w2.setCell ⟨w.heap.size,0,none⟩ (.slice none 0 0)).setCell ⟨w.heap.size,1,none⟩ (.slice none 0 0)).setCell ⟨w.heap.size,2,none⟩ (.slice q1 N d1)).setCell ⟨w.heap.size,3,none⟩ (.slice none 0 0)).setCell ⟨w.heap.size,4,none⟩ (.bool false)).heap.size = w2.heap.size:=by simp [World.setCell]
 have B3:=hide (bl_tr (uh Bs) (al1p _ (Obj.cells #[.int .i64 7,.slice none 0 0,.slice none 0 0,.slice q1 N d1,.slice none 0 0] 80)))
 have XS3:=hide ((uh XSs).alloc (Obj.cells #[.int .i64 7,.slice none 0 0,.slice none 0 0,.slice q1 N d1,.slice none 0 0] 80))
 have XR3:=hide ((uh XRs).alloc (Obj.cells #[.int .i64 7,.slice none 0 0,.slice none 0 0,.slice q1 N d1,.slice none 0 0] 80))
 have OR3:=hide (ownsRow_bel (uh ORs) (by omega) (al1p _ (Obj.cells #[.int .i64 7,.slice none 0 0,.slice none 0 0,.slice q1 N d1,.slice none 0 0] 80)))
 have XT3:Hid (Box ((((((w2.setCell ⟨w.heap.size,0,none⟩ (.slice none 0 0)).setCell ⟨w.heap.size,1,none⟩ (.slice none 0 0)).setCell ⟨w.heap.size,2,none⟩ (.slice q1 N d1)).setCell ⟨w.heap.size,3,none⟩ (.slice none 0 0)).setCell ⟨w.heap.size,4,none⟩ (.bool false)).alloc (Obj.cells #[.int .i64 7,.slice none 0 0,.slice none 0 0,.slice q1 N d1,.slice none 0 0] 80)) w2.heap.size #[.int .i64 7,.slice none 0 0,.slice none 0 0,.slice q1 N d1,.slice none 0 0] 80):=hide (by have h:=Box.new (((((w2.setCell ⟨w.heap.size,0,none⟩ (.slice none 0 0)).setCell ⟨w.heap.size,1,none⟩ (.slice none 0 0)).setCell ⟨w.heap.size,2,none⟩ (.slice q1 N d1)).setCell ⟨w.heap.size,3,none⟩ (.slice none 0 0)).setCell ⟨w.heap.size,4,none⟩ (.bool false)) #[.int .i64 7,.slice none 0 0,.slice none 0 0,.slice q1 N d1,.slice none 0 0] 80; rw [hsz] at h; exact h)
 have lx:=(uh XS2).lt
 have lx1:=(uh XR2).lt
 have fx:=(uh XSs).cell
 have LW:=hide (And.intro lw (And.intro lw1 lw2))
 clear B2 XS2 XR2 OR2 Bs XSs XRs ORs hsz hw c1 hrl CK CL CU lw lw1 lw2
 go_wp2_with fail
 generalize (((((w2.setCell ⟨w.heap.size,0,none⟩ (.slice none 0 0)).setCell ⟨w.heap.size,1,none⟩ (.slice none 0 0)).setCell ⟨w.heap.size,2,none⟩ (.slice q1 N d1)).setCell ⟨w.heap.size,3,none⟩ (.slice none 0 0)).setCell ⟨w.heap.size,4,none⟩ (.bool false)).alloc (Obj.cells #[.int .i64 7,.slice none 0 0,.slice none 0 0,.slice q1 N d1,.slice none 0 0] 80) = W at B3 XS3 XR3 XT3 OR3 ⊢
 have CL:=hide (fun v => clisted_any none 0 0 none 0 0 q1 N d1 none 0 0 false v (by omega) (by omega) (by omega))
 have hne:w2.heap.size ≠ w.heap.size + 1:=by omega
 have c3:((N:Int) == (N:Int)) = true:=by simp
 have B0:=B3
 have XS:=XS3
 have XR:=XR3
 have XT:=XT3
 have xs:=(uh XS).cell
 have xt:=(uh XT).cell
 have xr:=(uh XR).cell
 have fr:=(uh XR).frozen
 have xsd:=((uh XS).below (bdrewp W)).cell
 have xtd:=((uh XT).below (bdrewp W)).cell
 have xrd:=((uh XR).below (bdrewp W)).cell
 have frd:=((uh XR).below (bdrewp W)).frozen
 go_region_held3 (fun v => (∀ j,v.cell? ⟨w.heap.size,j,none⟩ = (#[.slice none 0 0,.slice none 0 0,.slice q1 N d1,.slice none 0 0,.bool false]:Array Value)[j]?) ∧ (∀ j,v.cell? ⟨w2.heap.size,j,none⟩ = (#[.int .i64 7,.slice none 0 0,.slice none 0 0,.slice q1 N d1,.slice none 0 0]:Array Value)[j]?)) (refine ⟨?_,?_⟩ <;> with_reducible assumption)
  ((go_at_call 235; (refine (uh CL _).mono ?_; rintro e w4 ⟨rfl,hb⟩; have B1:=hide (bl_tr (uh B0) (bl_tr (bdrewp W) hb)); have BD:=hide (bl_tr (bdrewp W) hb); have XR1:=hide ((uh XR).below (bl_tr (bdrewp W) hb)); have ys:=((uh XS).below (bl_tr (bdrewp W) hb)).cell; have yt:=((uh XT).below (bl_tr (bdrewp W) hb)).cell; have yr:=(uh XR1).cell; have gr:=(uh XR1).frozen; have zs:=(((uh XS).below (bl_tr (bdrewp W) hb)).off5 (show w.heap.size ≠ w.heap.size + 1 by omega) (.int .i64 7) (.slice none 0 0) (.slice none 0 0) (.slice q1 N d1) (.slice none 0 0)).cell; have zt:=(((uh XT).below (bl_tr (bdrewp W) hb)).off5 (show w2.heap.size ≠ w.heap.size + 1 by omega) (.int .i64 7) (.slice none 0 0) (.slice none 0 0) (.slice q1 N d1) (.slice none 0 0)).cell; clear hb)))
 go_wp2_with fail
 have Y5:=hide ((uh XR1).set5 (.int .i64 7) (.slice none 0 0) (.slice none 0 0) (.slice q1 N d1) (.slice none 0 0))
 have B5:=hide (bset5 (uh B1) (show w.heap.size ≤ w.heap.size + 1 by omega) (.int .i64 7) (.slice none 0 0) (.slice none 0 0) (.slice q1 N d1) (.slice none 0 0))
 have OR5:=hide (ownsRow_base (ownsRow_set5 (ownsRow_bel (uh OR3) (by have:=(uh LW); omega) (uh BD)) (uh LW).2.1 (.int .i64 7) (.slice none 0 0) (.slice none 0 0) (.slice q1 N d1) (.slice none 0 0)) (Nat.le_of_lt (uh LW).1))
 refine bodyPost_ret ?_ rfl ⟨q1,d1,rfl,hide ⟨uh OR5,uh B5⟩⟩
 simp [results,Tryz.results185,go_sem,(uh Y5).cell]
end Go.Proofs.YtmdlaahdgjegcaaGreat
