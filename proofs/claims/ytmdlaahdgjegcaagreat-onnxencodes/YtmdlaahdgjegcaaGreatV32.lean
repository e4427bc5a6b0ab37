import Derived.Test.YtmdlaahdgjegcaaGreatV27
import Derived.Test.YtmdlaahdgjegcaaGreatV31
set_option maxRecDepth 100000
set_option maxHeartbeats 8000000
namespace Go.Proofs.YtmdlaahdgjegcaaGreat
open Go.RowKit
set_option linter.unusedVariables false
theorem ctenFp_any (qf:Option Addr) (nf cf:Nat) (qs:Option Addr) (ns cs:Nat) (qn:Option Addr) (nn cn:Nat) (qr:Option Addr) (nr cr:Nat) (N:Nat) (w:World) (h1:nf ≤ 100000000) (h2:ns ≤ 100000000) (h3:nn ≤ 100000000) (hN:N ≤ 100000000) :
  Calls Tryz.prog 185 #[.agg #[.slice qf nf cf,.slice qs ns cs,.slice qn nn cn,.slice qr nr cr,.bool false],.int .i64 1,.int .i64 N] w fun e w' => e = .returned (.tuple #[.agg #[.int .i64 1,.slice none 0 0,.slice qf nf cf,.slice none 0 0,.slice none 0 0],.bool (decide (nf = N ∧ ns = 0 ∧ nn = 0))]) ∧ Below w.heap.size w w':=by
 have CL:=hide (fun v => clisted_any qf nf cf qs ns cs qn nn cn qr nr cr false v h1 h2 h3)
 have B0:=hide (al3p w (Obj.cells #[.slice qf nf cf,.slice qs ns cs,.slice qn nn cn,.slice qr nr cr,.bool false] 228) (Obj.cells #[.int .i64 0,.slice none 0 0,.slice none 0 0,.slice none 0 0,.slice none 0 0] 80) (Obj.cells #[.int .i64 1,.slice none 0 0,.slice qf nf cf,.slice none 0 0,.slice none 0 0] 80))
 have XS:=hide (((Box.new w #[.slice qf nf cf,.slice qs ns cs,.slice qn nn cn,.slice qr nr cr,.bool false] 228).alloc (Obj.cells #[.int .i64 0,.slice none 0 0,.slice none 0 0,.slice none 0 0,.slice none 0 0] 80)).alloc (Obj.cells #[.int .i64 1,.slice none 0 0,.slice qf nf cf,.slice none 0 0,.slice none 0 0] 80))
 have XR:Hid (Box (((w.alloc (Obj.cells #[.slice qf nf cf,.slice qs ns cs,.slice qn nn cn,.slice qr nr cr,.bool false] 228)).alloc (Obj.cells #[.int .i64 0,.slice none 0 0,.slice none 0 0,.slice none 0 0,.slice none 0 0] 80)).alloc (Obj.cells #[.int .i64 1,.slice none 0 0,.slice qf nf cf,.slice none 0 0,.slice none 0 0] 80)) (w.heap.size + 1) #[.int .i64 0,.slice none 0 0,.slice none 0 0,.slice none 0 0,.slice none 0 0] 80):=hide (by have h:=(Box.new (w.alloc (Obj.cells #[.slice qf nf cf,.slice qs ns cs,.slice qn nn cn,.slice qr nr cr,.bool false] 228)) #[.int .i64 0,.slice none 0 0,.slice none 0 0,.slice none 0 0,.slice none 0 0] 80).alloc (Obj.cells #[.int .i64 1,.slice none 0 0,.slice qf nf cf,.slice none 0 0,.slice none 0 0] 80); rw [alloc_size6] at h; exact h)
 have XT:Hid (Box (((w.alloc (Obj.cells #[.slice qf nf cf,.slice qs ns cs,.slice qn nn cn,.slice qr nr cr,.bool false] 228)).alloc (Obj.cells #[.int .i64 0,.slice none 0 0,.slice none 0 0,.slice none 0 0,.slice none 0 0] 80)).alloc (Obj.cells #[.int .i64 1,.slice none 0 0,.slice qf nf cf,.slice none 0 0,.slice none 0 0] 80)) (w.heap.size + 1 + 1) #[.int .i64 1,.slice none 0 0,.slice qf nf cf,.slice none 0 0,.slice none 0 0] 80):=hide (by have h:=Box.new ((w.alloc (Obj.cells #[.slice qf nf cf,.slice qs ns cs,.slice qn nn cn,.slice qr nr cr,.bool false] 228)).alloc (Obj.cells #[.int .i64 0,.slice none 0 0,.slice none 0 0,.slice none 0 0,.slice none 0 0] 80)) #[.int .i64 1,.slice none 0 0,.slice qf nf cf,.slice none 0 0,.slice none 0 0] 80; rw [alloc_size6,alloc_size6] at h; exact h)
 by_cases c1:nf = N
 ·subst c1
  by_cases c2:ns = 0 ∧ nn = 0
  ·have c3:(((nf:Int) + (ns:Int) + (nn:Int)) == (nf:Int)) = true:=by simp; omega
   rw [show decide (nf = nf ∧ ns = 0 ∧ nn = 0) = true from decide_eq_true ⟨rfl,c2⟩]
   have HH:=hide c2
   clear c2
   go_enter Tryz.func185,Tryz.ntmps185
   go_wp2_with fail
   generalize ((w.alloc (Obj.cells #[.slice qf nf cf,.slice qs ns cs,.slice qn nn cn,.slice qr nr cr,.bool false] 228)).alloc (Obj.cells #[.int .i64 0,.slice none 0 0,.slice none 0 0,.slice none 0 0,.slice none 0 0] 80)).alloc (Obj.cells #[.int .i64 1,.slice none 0 0,.slice qf nf cf,.slice none 0 0,.slice none 0 0] 80) = W at B0 XS XR XT ⊢
   have xs:=(uh XS).cell
   have xt:=(uh XT).cell
   have xr:=(uh XR).cell
   have fr:=(uh XR).frozen
   have xsd:=((uh XS).below (bdrewp W)).cell
   have xtd:=((uh XT).below (bdrewp W)).cell
   have xrd:=((uh XR).below (bdrewp W)).cell
   have frd:=((uh XR).below (bdrewp W)).frozen
   go_region_held3 (fun v => (∀ j,v.cell? ⟨w.heap.size,j,none⟩ = (#[.slice qf nf cf,.slice qs ns cs,.slice qn nn cn,.slice qr nr cr,.bool false]:Array Value)[j]?) ∧ (∀ j,v.cell? ⟨w.heap.size + 1 + 1,j,none⟩ = (#[.int .i64 1,.slice none 0 0,.slice qf nf cf,.slice none 0 0,.slice none 0 0]:Array Value)[j]?)) (refine ⟨?_,?_⟩ <;> with_reducible assumption)
    ((go_at_call 235; (refine (uh CL _).mono ?_; rintro e w1 ⟨rfl,hb⟩; have B1:=hide (bl_tr (uh B0) (bl_tr (bdrewp W) hb)); have XR1:=hide ((uh XR).below (bl_tr (bdrewp W) hb)); have ys:=((uh XS).below (bl_tr (bdrewp W) hb)).cell; have yt:=((uh XT).below (bl_tr (bdrewp W) hb)).cell; have yr:=(uh XR1).cell; have gr:=(uh XR1).frozen; have zs:=(((uh XS).below (bl_tr (bdrewp W) hb)).off5 (show w.heap.size ≠ w.heap.size + 1 by omega) (.int .i64 1) (.slice none 0 0) (.slice qf nf cf) (.slice none 0 0) (.slice none 0 0)).cell; have zt:=(((uh XT).below (bl_tr (bdrewp W) hb)).off5 (show w.heap.size + 1 + 1 ≠ w.heap.size + 1 by omega) (.int .i64 1) (.slice none 0 0) (.slice qf nf cf) (.slice none 0 0) (.slice none 0 0)).cell; clear hb)))
   go_wp2_with fail
   have Y5:=hide ((uh XR1).set5 (.int .i64 1) (.slice none 0 0) (.slice qf nf cf) (.slice none 0 0) (.slice none 0 0))
   have B5:=hide (bset5 (uh B1) (show w.heap.size ≤ w.heap.size + 1 by omega) (.int .i64 1) (.slice none 0 0) (.slice qf nf cf) (.slice none 0 0) (.slice none 0 0))
   refine bodyPost_ret ?_ rfl ⟨rfl,uh B5⟩
   simp [results,Tryz.results185,go_sem,(uh Y5).cell]
  ·have c3:(((nf:Int) + (ns:Int) + (nn:Int)) == (nf:Int)) = false:=by simp; omega
   rw [show decide (nf = nf ∧ ns = 0 ∧ nn = 0) = false from decide_eq_false (fun h => c2 h.2)]
   have HH:=hide c2
   clear c2
   go_enter Tryz.func185,Tryz.ntmps185
   go_wp2_with fail
   generalize ((w.alloc (Obj.cells #[.slice qf nf cf,.slice qs ns cs,.slice qn nn cn,.slice qr nr cr,.bool false] 228)).alloc (Obj.cells #[.int .i64 0,.slice none 0 0,.slice none 0 0,.slice none 0 0,.slice none 0 0] 80)).alloc (Obj.cells #[.int .i64 1,.slice none 0 0,.slice qf nf cf,.slice none 0 0,.slice none 0 0] 80) = W at B0 XS XR XT ⊢
   have xs:=(uh XS).cell
   have xt:=(uh XT).cell
   have xr:=(uh XR).cell
   have fr:=(uh XR).frozen
   have xsd:=((uh XS).below (bdrewp W)).cell
   have xtd:=((uh XT).below (bdrewp W)).cell
   have xrd:=((uh XR).below (bdrewp W)).cell
   have frd:=((uh XR).below (bdrewp W)).frozen
   go_region_held3 (fun v => (∀ j,v.cell? ⟨w.heap.size,j,none⟩ = (#[.slice qf nf cf,.slice qs ns cs,.slice qn nn cn,.slice qr nr cr,.bool false]:Array Value)[j]?) ∧ (∀ j,v.cell? ⟨w.heap.size + 1 + 1,j,none⟩ = (#[.int .i64 1,.slice none 0 0,.slice qf nf cf,.slice none 0 0,.slice none 0 0]:Array Value)[j]?)) (refine ⟨?_,?_⟩ <;> with_reducible assumption)
    ((go_at_call 235; (refine (uh CL _).mono ?_; rintro e w1 ⟨rfl,hb⟩; have B1:=hide (bl_tr (uh B0) (bl_tr (bdrewp W) hb)); have XR1:=hide ((uh XR).below (bl_tr (bdrewp W) hb)); have ys:=((uh XS).below (bl_tr (bdrewp W) hb)).cell; have yt:=((uh XT).below (bl_tr (bdrewp W) hb)).cell; have yr:=(uh XR1).cell; have gr:=(uh XR1).frozen; have zs:=(((uh XS).below (bl_tr (bdrewp W) hb)).off5 (show w.heap.size ≠ w.heap.size + 1 by omega) (.int .i64 1) (.slice none 0 0) (.slice qf nf cf) (.slice none 0 0) (.slice none 0 0)).cell; have zt:=(((uh XT).below (bl_tr (bdrewp W) hb)).off5 (show w.heap.size + 1 + 1 ≠ w.heap.size + 1 by omega) (.int .i64 1) (.slice none 0 0) (.slice qf nf cf) (.slice none 0 0) (.slice none 0 0)).cell; clear hb)))
   go_wp2_with fail
   have Y5:=hide ((uh XR1).set5 (.int .i64 1) (.slice none 0 0) (.slice qf nf cf) (.slice none 0 0) (.slice none 0 0))
   have B5:=hide (bset5 (uh B1) (show w.heap.size ≤ w.heap.size + 1 by omega) (.int .i64 1) (.slice none 0 0) (.slice qf nf cf) (.slice none 0 0) (.slice none 0 0))
   refine bodyPost_ret ?_ rfl ⟨rfl,uh B5⟩
   simp [results,Tryz.results185,go_sem,(uh Y5).cell]
 ·have c3:((nf:Int) == (N:Int)) = false:=by simp; omega
  have c4:(nf == N) = false:=by simpa using c1
  have c5:decide ((nf:Int) = (N:Int)) = false:=by simp; omega
  have c6:decide (nf = N) = false:=by simpa using c1
  have c7:¬ (nf:Int) = (N:Int):=by omega
  rw [show decide (nf = N ∧ ns = 0 ∧ nn = 0) = false from decide_eq_false (fun h => c1 h.1)]
  go_enter Tryz.func185,Tryz.ntmps185
  go_wp2_with fail
  generalize ((w.alloc (Obj.cells #[.slice qf nf cf,.slice qs ns cs,.slice qn nn cn,.slice qr nr cr,.bool false] 228)).alloc (Obj.cells #[.int .i64 0,.slice none 0 0,.slice none 0 0,.slice none 0 0,.slice none 0 0] 80)).alloc (Obj.cells #[.int .i64 1,.slice none 0 0,.slice qf nf cf,.slice none 0 0,.slice none 0 0] 80) = W at B0 XS XR XT ⊢
  have xs:=(uh XS).cell
  have xt:=(uh XT).cell
  have xr:=(uh XR).cell
  have fr:=(uh XR).frozen
  have xsd:=((uh XS).below (bdrewp W)).cell
  have xtd:=((uh XT).below (bdrewp W)).cell
  have xrd:=((uh XR).below (bdrewp W)).cell
  have frd:=((uh XR).below (bdrewp W)).frozen
  go_region
  go_wp2_with fail
  have Y5:=hide (((uh XR).set5 (.int .i64 1) (.slice none 0 0) (.slice qf nf cf) (.slice none 0 0) (.slice none 0 0)).below (bdrewp _))
  have B5:=hide (bl_tr (bset5 (uh B0) (show w.heap.size ≤ w.heap.size + 1 by omega) (.int .i64 1) (.slice none 0 0) (.slice qf nf cf) (.slice none 0 0) (.slice none 0 0)) (bdrewp _))
  refine bodyPost_ret ?_ rfl ⟨rfl,uh B5⟩
  simp [results,Tryz.results185,go_sem,(uh Y5).cell]
theorem ctenIp_any (qf:Option Addr) (nf cf:Nat) (qs:Option Addr) (ns cs:Nat) (qn:Option Addr) (nn cn:Nat) (qr:Option Addr) (nr cr:Nat) (N:Nat) (w:World) (h1:nf ≤ 100000000) (h2:ns ≤ 100000000) (h3:nn ≤ 100000000) (hN:N ≤ 100000000) :
  Calls Tryz.prog 185 #[.agg #[.slice qf nf cf,.slice qs ns cs,.slice qn nn cn,.slice qr nr cr,.bool false],.int .i64 7,.int .i64 N] w fun e w' => e = .returned (.tuple #[.agg #[.int .i64 7,.slice none 0 0,.slice none 0 0,.slice qn nn cn,.slice none 0 0],.bool (decide (nn = N ∧ nf = 0 ∧ ns = 0))]) ∧ Below w.heap.size w w':=by
 have CL:=hide (fun v => clisted_any qf nf cf qs ns cs qn nn cn qr nr cr false v h1 h2 h3)
 have B0:=hide (al3p w (Obj.cells #[.slice qf nf cf,.slice qs ns cs,.slice qn nn cn,.slice qr nr cr,.bool false] 228) (Obj.cells #[.int .i64 0,.slice none 0 0,.slice none 0 0,.slice none 0 0,.slice none 0 0] 80) (Obj.cells #[.int .i64 7,.slice none 0 0,.slice none 0 0,.slice qn nn cn,.slice none 0 0] 80))
 have XS:=hide (((Box.new w #[.slice qf nf cf,.slice qs ns cs,.slice qn nn cn,.slice qr nr cr,.bool false] 228).alloc (Obj.cells #[.int .i64 0,.slice none 0 0,.slice none 0 0,.slice none 0 0,.slice none 0 0] 80)).alloc (Obj.cells #[.int .i64 7,.slice none 0 0,.slice none 0 0,.slice qn nn cn,.slice none 0 0] 80))
 have XR:Hid (Box (((w.alloc (Obj.cells #[.slice qf nf cf,.slice qs ns cs,.slice qn nn cn,.slice qr nr cr,.bool false] 228)).alloc (Obj.cells #[.int .i64 0,.slice none 0 0,.slice none 0 0,.slice none 0 0,.slice none 0 0] 80)).alloc (Obj.cells #[.int .i64 7,.slice none 0 0,.slice none 0 0,.slice qn nn cn,.slice none 0 0] 80)) (w.heap.size + 1) #[.int .i64 0,.slice none 0 0,.slice none 0 0,.slice none 0 0,.slice none 0 0] 80):=hide (by have h:=(Box.new (w.alloc (Obj.cells #[.slice qf nf cf,.slice qs ns cs,.slice qn nn cn,.slice qr nr cr,.bool false] 228)) #[.int .i64 0,.slice none 0 0,.slice none 0 0,.slice none 0 0,.slice none 0 0] 80).alloc (Obj.cells #[.int .i64 7,.slice none 0 0,.slice none 0 0,.slice qn nn cn,.slice none 0 0] 80); rw [alloc_size6] at h; exact h)
 have XT:Hid (Box (((w.alloc (Obj.cells #[.slice qf nf cf,.slice qs ns cs,.slice qn nn cn,.slice qr nr cr,.bool false] 228)).alloc (Obj.cells #[.int .i64 0,.slice none 0 0,.slice none 0 0,.slice none 0 0,.slice none 0 0] 80)).alloc (Obj.cells #[.int .i64 7,.slice none 0 0,.slice none 0 0,.slice qn nn cn,.slice none 0 0] 80)) (w.heap.size + 1 + 1) #[.int .i64 7,.slice none 0 0,.slice none 0 0,.slice qn nn cn,.slice none 0 0] 80):=hide (by have h:=Box.new ((w.alloc (Obj.cells #[.slice qf nf cf,.slice qs ns cs,.slice qn nn cn,.slice qr nr cr,.bool false] 228)).alloc (Obj.cells #[.int .i64 0,.slice none 0 0,.slice none 0 0,.slice none 0 0,.slice none 0 0] 80)) #[.int .i64 7,.slice none 0 0,.slice none 0 0,.slice qn nn cn,.slice none 0 0] 80; rw [alloc_size6,alloc_size6] at h; exact h)
 by_cases c1:nn = N
 ·subst c1
  by_cases c2:nf = 0 ∧ ns = 0
  ·have c3:(((nf:Int) + (ns:Int) + (nn:Int)) == (nn:Int)) = true:=by simp; omega
   rw [show decide (nn = nn ∧ nf = 0 ∧ ns = 0) = true from decide_eq_true ⟨rfl,c2⟩]
   have HH:=hide c2
   clear c2
   go_enter Tryz.func185,Tryz.ntmps185
   go_wp2_with fail
   generalize ((w.alloc (Obj.cells #[.slice qf nf cf,.slice qs ns cs,.slice qn nn cn,.slice qr nr cr,.bool false] 228)).alloc (Obj.cells #[.int .i64 0,.slice none 0 0,.slice none 0 0,.slice none 0 0,.slice none 0 0] 80)).alloc (Obj.cells #[.int .i64 7,.slice none 0 0,.slice none 0 0,.slice qn nn cn,.slice none 0 0] 80) = W at B0 XS XR XT ⊢
   have xs:=(uh XS).cell
   have xt:=(uh XT).cell
   have xr:=(uh XR).cell
   have fr:=(uh XR).frozen
   have xsd:=((uh XS).below (bdrewp W)).cell
   have xtd:=((uh XT).below (bdrewp W)).cell
   have xrd:=((uh XR).below (bdrewp W)).cell
   have frd:=((uh XR).below (bdrewp W)).frozen
   go_region_held3 (fun v => (∀ j,v.cell? ⟨w.heap.size,j,none⟩ = (#[.slice qf nf cf,.slice qs ns cs,.slice qn nn cn,.slice qr nr cr,.bool false]:Array Value)[j]?) ∧ (∀ j,v.cell? ⟨w.heap.size + 1 + 1,j,none⟩ = (#[.int .i64 7,.slice none 0 0,.slice none 0 0,.slice qn nn cn,.slice none 0 0]:Array Value)[j]?)) (refine ⟨?_,?_⟩ <;> with_reducible assumption)
    ((go_at_call 235; (refine (uh CL _).mono ?_; rintro e w1 ⟨rfl,hb⟩; have B1:=hide (bl_tr (uh B0) (bl_tr (bdrewp W) hb)); have XR1:=hide ((uh XR).below (bl_tr (bdrewp W) hb)); have ys:=((uh XS).below (bl_tr (bdrewp W) hb)).cell; have yt:=((uh XT).below (bl_tr (bdrewp W) hb)).cell; have yr:=(uh XR1).cell; have gr:=(uh XR1).frozen; have zs:=(((uh XS).below (bl_tr (bdrewp W) hb)).off5 (show w.heap.size ≠ w.heap.size + 1 by omega) (.int .i64 7) (.slice none 0 0) (.slice none 0 0) (.slice qn nn cn) (.slice none 0 0)).cell; have zt:=(((uh XT).below (bl_tr (bdrewp W) hb)).off5 (show w.heap.size + 1 + 1 ≠ w.heap.size + 1 by omega) (.int .i64 7) (.slice none 0 0) (.slice none 0 0) (.slice qn nn cn) (.slice none 0 0)).cell; clear hb)))
   go_wp2_with fail
   have Y5:=hide ((uh XR1).set5 (.int .i64 7) (.slice none 0 0) (.slice none 0 0) (.slice qn nn cn) (.slice none 0 0))
   have B5:=hide (bset5 (uh B1) (show w.heap.size ≤ w.heap.size + 1 by omega) (.int .i64 7) (.slice none 0 0) (.slice none 0 0) (.slice qn nn cn) (.slice none 0 0))
   refine bodyPost_ret ?_ rfl ⟨rfl,uh B5⟩
   simp [results,Tryz.results185,go_sem,(uh Y5).cell]
  ·have c3:(((nf:Int) + (ns:Int) + (nn:Int)) == (nn:Int)) = false:=by simp; omega
   rw [show decide (nn = nn ∧ nf = 0 ∧ ns = 0) = false from decide_eq_false (fun h => c2 h.2)]
   have HH:=hide c2
   clear c2
   go_enter Tryz.func185,Tryz.ntmps185
   go_wp2_with fail
   generalize ((w.alloc (Obj.cells #[.slice qf nf cf,.slice qs ns cs,.slice qn nn cn,.slice qr nr cr,.bool false] 228)).alloc (Obj.cells #[.int .i64 0,.slice none 0 0,.slice none 0 0,.slice none 0 0,.slice none 0 0] 80)).alloc (Obj.cells #[.int .i64 7,.slice none 0 0,.slice none 0 0,.slice qn nn cn,.slice none 0 0] 80) = W at B0 XS XR XT ⊢
   have xs:=(uh XS).cell
   have xt:=(uh XT).cell
   have xr:=(uh XR).cell
   have fr:=(uh XR).frozen
   have xsd:=((uh XS).below (bdrewp W)).cell
   have xtd:=((uh XT).below (bdrewp W)).cell
   have xrd:=((uh XR).below (bdrewp W)).cell
   have frd:=((uh XR).below (bdrewp W)).frozen
   go_region_held3 (fun v => (∀ j,v.cell? ⟨w.heap.size,j,none⟩ = (#[.slice qf nf cf,.slice qs ns cs,.slice qn nn cn,.slice qr nr cr,.bool false]:Array Value)[j]?) ∧ (∀ j,v.cell? ⟨w.heap.size + 1 + 1,j,none⟩ = (#[.int .i64 7,.slice none 0 0,.slice none 0 0,.slice qn nn cn,.slice none 0 0]:Array Value)[j]?)) (refine ⟨?_,?_⟩ <;> with_reducible assumption)
    ((go_at_call 235; (refine (uh CL _).mono ?_; rintro e w1 ⟨rfl,hb⟩; have B1:=hide (bl_tr (uh B0) (bl_tr (bdrewp W) hb)); have XR1:=hide ((uh XR).below (bl_tr (bdrewp W) hb)); have ys:=((uh XS).below (bl_tr (bdrewp W) hb)).cell; have yt:=((uh XT).below (bl_tr (bdrewp W) hb)).cell; have yr:=(uh XR1).cell; have gr:=(uh XR1).frozen; have zs:=(((uh XS).below (bl_tr (bdrewp W) hb)).off5 (show w.heap.size ≠ w.heap.size + 1 by omega) (.int .i64 7) (.slice none 0 0) (.slice none 0 0) (.slice qn nn cn) (.slice none 0 0)).cell; have zt:=(((uh XT).below (bl_tr (bdrewp W) hb)).off5 (show w.heap.size + 1 + 1 ≠ w.heap.size + 1 by omega) (.int .i64 7) (.slice none 0 0) (.slice none 0 0) (.slice qn nn cn) (.slice none 0 0)).cell; clear hb)))
   go_wp2_with fail
   have Y5:=hide ((uh XR1).set5 (.int .i64 7) (.slice none 0 0) (.slice none 0 0) (.slice qn nn cn) (.slice none 0 0))
   have B5:=hide (bset5 (uh B1) (show w.heap.size ≤ w.heap.size + 1 by omega) (.int .i64 7) (.slice none 0 0) (.slice none 0 0) (.slice qn nn cn) (.slice none 0 0))
   refine bodyPost_ret ?_ rfl ⟨rfl,uh B5⟩
   simp [results,Tryz.results185,go_sem,(uh Y5).cell]
 ·have c3:((nn:Int) == (N:Int)) = false:=by simp; omega
  have c4:(nn == N) = false:=by simpa using c1
  have c5:decide ((nn:Int) = (N:Int)) = false:=by simp; omega
  have c6:decide (nn = N) = false:=by simpa using c1
  have c7:¬ (nn:Int) = (N:Int):=by omega
  rw [show decide (nn = N ∧ nf = 0 ∧ ns = 0) = false from decide_eq_false (fun h => c1 h.1)]
  go_enter Tryz.func185,Tryz.ntmps185
  go_wp2_with fail
  generalize ((w.alloc (Obj.cells #[.slice qf nf cf,.slice qs ns cs,.slice qn nn cn,.slice qr nr cr,.bool false] 228)).alloc (Obj.cells #[.int .i64 0,.slice none 0 0,.slice none 0 0,.slice none 0 0,.slice none 0 0] 80)).alloc (Obj.cells #[.int .i64 7,.slice none 0 0,.slice none 0 0,.slice qn nn cn,.slice none 0 0] 80) = W at B0 XS XR XT ⊢
  have xs:=(uh XS).cell
  have xt:=(uh XT).cell
  have xr:=(uh XR).cell
  have fr:=(uh XR).frozen
  have xsd:=((uh XS).below (bdrewp W)).cell
  have xtd:=((uh XT).below (bdrewp W)).cell
  have xrd:=((uh XR).below (bdrewp W)).cell
  have frd:=((uh XR).below (bdrewp W)).frozen
  go_region
  go_wp2_with fail
  have Y5:=hide (((uh XR).set5 (.int .i64 7) (.slice none 0 0) (.slice none 0 0) (.slice qn nn cn) (.slice none 0 0)).below (bdrewp _))
  have B5:=hide (bl_tr (bset5 (uh B0) (show w.heap.size ≤ w.heap.size + 1 by omega) (.int .i64 7) (.slice none 0 0) (.slice none 0 0) (.slice qn nn cn) (.slice none 0 0)) (bdrewp _))
  refine bodyPost_ret ?_ rfl ⟨rfl,uh B5⟩
  simp [results,Tryz.results185,go_sem,(uh Y5).cell]
end Go.Proofs.YtmdlaahdgjegcaaGreat
