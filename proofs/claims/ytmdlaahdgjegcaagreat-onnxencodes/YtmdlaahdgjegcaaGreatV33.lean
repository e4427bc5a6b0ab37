import Derived.Test.YtmdlaahdgjegcaaGreatV02
import Derived.Test.YtmdlaahdgjegcaaGreatV27
import Derived.Test.YtmdlaahdgjegcaaGreatV32
set_option maxRecDepth 100000
set_option maxHeartbeats 8000000
namespace Go.Proofs.YtmdlaahdgjegcaaGreat
open Go.RowKit
set_option linter.unusedVariables false
theorem ownsRow_bel {base k n:Nat} {e:TypeId} {w w':World} {v:Value} {xs:List Value} (h:w.ownsRow base e k v n xs) (hb:0 < base) (s:Below w.heap.size w w'):w'.ownsRow base e k v n xs:=ownsRow_stay h hb (Stay.below s (Nat.zero_le _))
theorem ownsRow_set5 {base k n g:Nat} {e:TypeId} {w:World} {v:Value} {xs:List Value} (h:w.ownsRow base e k v n xs) (hg:g < base) (u0 u1 u2 u3 u4:Value):(((((w.setCell ⟨g,0,none⟩ u0).setCell ⟨g,1,none⟩ u1).setCell ⟨g,2,none⟩ u2).setCell ⟨g,3,none⟩ u3).setCell ⟨g,4,none⟩ u4).ownsRow base e k v n xs :=
 ownsRow_stay h hg (((((Stay.set g w 0 u0).trans (Stay.set g _ 1 u1)).trans (Stay.set g _ 2 u2)).trans (Stay.set g _ 3 u3)).trans (Stay.set g _ 4 u4))
theorem own_len {base k n m:Nat} {e:TypeId} {w:World} {v:Value} {xs ys:List Value} (h:w.ownsRow base e k v n xs) (hn:n = m) (hx:xs = ys):w.ownsRow base e k v m ys:=by subst hn; subst hx; exact h
theorem ctenBp_any (qf:Option Addr) (nf cf:Nat) (qs:Option Addr) (cs:Nat) (sm:List Int) (qn:Option Addr) (nn cn:Nat) (qr:Option Addr) (nr cr:Nat) (N:Nat) (w:World) (h1:nf ≤ 100000000) (h2:sm.length ≤ 100000000) (h3:nn ≤ 100000000) (hN:N ≤ 100000000) (hs:Ls (Value.int .i64) w qs cs sm) :
  Calls Tryz.prog 185 #[.agg #[.slice qf nf cf,.slice qs sm.length cs,.slice qn nn cn,.slice qr nr cr,.bool false],.int .i64 9,.int .i64 N] w fun e w' => ∃ q d,e = .returned (.tuple #[.agg #[.int .i64 9,.slice none 0 0,.slice none 0 0,.slice none 0 0,.slice q (trV sm).length d],.bool (decide (truthsOK sm = true ∧ sm.length = N ∧ nf = 0 ∧ nn = 0))]) ∧ Hid (w'.ownsRow w.heap.size 4 1 (.slice q (trV sm).length d) (trV sm).length ((trV sm).map Value.bool) ∧ Below w.heap.size w w'):=by
 have CL:=hide (fun v => clisted_any qf nf cf qs sm.length cs qn nn cn qr nr cr false v h1 h2 h3)
 have CT:=hide (fun v (hv:Below w.heap.size w v) => ctruths_any qs cs sm v (hs.below hv) h2)
 have HT:Hid (trV sm = if truthsOK sm = true then sm.map (· == 1) else []):=hide rfl
 clear hs
 have B0:=hide (al3p w (Obj.cells #[.slice qf nf cf,.slice qs sm.length cs,.slice qn nn cn,.slice qr nr cr,.bool false] 228) (Obj.cells #[.int .i64 0,.slice none 0 0,.slice none 0 0,.slice none 0 0,.slice none 0 0] 80) (Obj.cells #[.int .i64 9,.slice none 0 0,.slice none 0 0,.slice none 0 0,.slice none 0 0] 80))
 have XS:=hide (((Box.new w #[.slice qf nf cf,.slice qs sm.length cs,.slice qn nn cn,.slice qr nr cr,.bool false] 228).alloc (Obj.cells #[.int .i64 0,.slice none 0 0,.slice none 0 0,.slice none 0 0,.slice none 0 0] 80)).alloc (Obj.cells #[.int .i64 9,.slice none 0 0,.slice none 0 0,.slice none 0 0,.slice none 0 0] 80))
 have XR:Hid (Box (((w.alloc (Obj.cells #[.slice qf nf cf,.slice qs sm.length cs,.slice qn nn cn,.slice qr nr cr,.bool false] 228)).alloc (Obj.cells #[.int .i64 0,.slice none 0 0,.slice none 0 0,.slice none 0 0,.slice none 0 0] 80)).alloc (Obj.cells #[.int .i64 9,.slice none 0 0,.slice none 0 0,.slice none 0 0,.slice none 0 0] 80)) (w.heap.size + 1) #[.int .i64 0,.slice none 0 0,.slice none 0 0,.slice none 0 0,.slice none 0 0] 80):=hide (by have h:=(Box.new (w.alloc (Obj.cells #[.slice qf nf cf,.slice qs sm.length cs,.slice qn nn cn,.slice qr nr cr,.bool false] 228)) #[.int .i64 0,.slice none 0 0,.slice none 0 0,.slice none 0 0,.slice none 0 0] 80).alloc (Obj.cells #[.int .i64 9,.slice none 0 0,.slice none 0 0,.slice none 0 0,.slice none 0 0] 80); rw [alloc_size6] at h; exact h)
 have XT:Hid (Box (((w.alloc (Obj.cells #[.slice qf nf cf,.slice qs sm.length cs,.slice qn nn cn,.slice qr nr cr,.bool false] 228)).alloc (Obj.cells #[.int .i64 0,.slice none 0 0,.slice none 0 0,.slice none 0 0,.slice none 0 0] 80)).alloc (Obj.cells #[.int .i64 9,.slice none 0 0,.slice none 0 0,.slice none 0 0,.slice none 0 0] 80)) (w.heap.size + 1 + 1) #[.int .i64 9,.slice none 0 0,.slice none 0 0,.slice none 0 0,.slice none 0 0] 80):=hide (by have h:=Box.new ((w.alloc (Obj.cells #[.slice qf nf cf,.slice qs sm.length cs,.slice qn nn cn,.slice qr nr cr,.bool false] 228)).alloc (Obj.cells #[.int .i64 0,.slice none 0 0,.slice none 0 0,.slice none 0 0,.slice none 0 0] 80)) #[.int .i64 9,.slice none 0 0,.slice none 0 0,.slice none 0 0,.slice none 0 0] 80; rw [alloc_size6,alloc_size6] at h; exact h)
 cases hok:truthsOK sm with
 | false =>
   rw [hok] at CT HT
   rw [show decide (false = true ∧ sm.length = N ∧ nf = 0 ∧ nn = 0) = false from by simp]
   rw [if_neg (by decide)] at HT CT
   have HL:Hid (([]:List Bool).length = 0):=hide rfl
   rw [uh HT]
   have HL2:=hide hok
   clear hok
   go_enter Tryz.func185,Tryz.ntmps185
   go_wp2_with fail
   refine (uh CT _ (uh B0)).mono ?_
   rintro e w1 ⟨v,rfl,hO⟩
   obtain ⟨q1,d1,hq,_,_⟩:=hO.form
   subst hq
   rw [uh HL] at hO
   rw [uh HL]
   have OR1:=hide hO.1
   have B1:=hide (bl_tr (uh B0) hO.2)
   have XS1:=hide ((uh XS).below hO.2)
   have XR1:=hide ((uh XR).below hO.2)
   have XT1:=hide ((uh XT).below hO.2)
   have x1:=(uh XT1).cell
   have f1:=(uh XT1).frozen
   clear hO
   have XT2:Hid (Box (w1.setCell ⟨w.heap.size + 1 + 1,4,none⟩ (.slice q1 0 d1)) (w.heap.size + 1 + 1) #[.int .i64 9,.slice none 0 0,.slice none 0 0,.slice none 0 0,.slice q1 0 d1] 80):=hide ((uh XT1).same 4 (.slice q1 0 d1))
   have XS2:=hide ((uh XS1).other (show w.heap.size ≠ w.heap.size + 1 + 1 by omega) 4 (.slice q1 0 d1))
   have XR2:=hide ((uh XR1).other (show w.heap.size + 1 ≠ w.heap.size + 1 + 1 by omega) 4 (.slice q1 0 d1))
   have B2:=hide ((uh B1).setCell (p:=⟨w.heap.size + 1 + 1,4,none⟩) (show w.heap.size ≤ w.heap.size + 1 + 1 by omega) (.slice q1 0 d1))
   have OR2:=hide (ownsRow_stay (uh OR1) (show w.heap.size + 1 + 1 < _ by simp) (Stay.set (w.heap.size + 1 + 1) w1 4 (.slice q1 0 d1)))
   have x2:=(uh XT2).cell
   clear XS XR XT B0 OR1 XS1 XR1 XT1 B1
   go_wp2_with fail
   generalize w1.setCell ⟨w.heap.size + 1 + 1,4,none⟩ (.slice q1 0 d1) = W at B2 XS2 XR2 XT2 OR2 x2 ⊢
   have B0:=B2
   have XS:=XS2
   have XR:=XR2
   have XT:=XT2
   have xs:=(uh XS).cell
   have xt:=(uh XT).cell
   have xr:=(uh XR).cell
   have fr:=(uh XR).frozen
   have xsd:=((uh XS).below (bdrewp W)).cell
   have xtd:=((uh XT).below (bdrewp W)).cell
   have xrd:=((uh XR).below (bdrewp W)).cell
   have frd:=((uh XR).below (bdrewp W)).frozen
   go_region
   go_wp2_with fail
   have Y5:=hide (((uh XR).set5 (.int .i64 9) (.slice none 0 0) (.slice none 0 0) (.slice none 0 0) (.slice q1 0 d1)).below (bdrewp _))
   have B5:=hide (bl_tr (bset5 (uh B0) (show w.heap.size ≤ w.heap.size + 1 by omega) (.int .i64 9) (.slice none 0 0) (.slice none 0 0) (.slice none 0 0) (.slice q1 0 d1)) (bdrewp _))
   have OR5:=hide (ownsRow_base (ownsRow_bel (ownsRow_set5 (uh OR2) (show w.heap.size + 1 < _ by simp) (.int .i64 9) (.slice none 0 0) (.slice none 0 0) (.slice none 0 0) (.slice q1 0 d1)) (show 0 < _ by simp) (bdrewp _)) (show w.heap.size ≤ _ by simp; omega))
   refine bodyPost_ret ?_ rfl ⟨q1,d1,rfl,hide ⟨own_len (uh OR5) (uh HL) rfl,uh B5⟩⟩
   simp [results,Tryz.results185,go_sem,(uh Y5).cell]
 | true =>
   rw [hok] at CT HT
   rw [if_pos rfl] at HT CT
   rw [uh HT]
   obtain ⟨M,hM⟩:∃ M,sm.length = M:=⟨_,rfl⟩
   have HL:Hid ((sm.map (· == 1)).length = M):=hide (by rw [List.length_map]; exact hM)
   rw [hM] at CL CT h2 ⊢
   rw [uh HL]
   generalize sm.map (· == 1) = Q at CT HL ⊢
   have HL2:=hide hok
   have HL3:=hide hM
   rw [hM] at B0 XS XR XT
   clear hok hM
   by_cases c1:M = N
   ·subst c1
    by_cases c2:nf = 0 ∧ nn = 0
    ·have c3:(((nf:Int) + (M:Int) + (nn:Int)) == (M:Int)) = true:=by simp; omega
     rw [show decide (true = true ∧ M = M ∧ nf = 0 ∧ nn = 0) = true from decide_eq_true ⟨rfl,rfl,c2⟩]
     have HH:=hide c2
     clear c2
     go_enter Tryz.func185,Tryz.ntmps185
     go_wp2_with fail
     refine (uh CT _ (uh B0)).mono ?_
     rintro e w1 ⟨v,rfl,hO⟩
     obtain ⟨q1,d1,hq,_,_⟩:=hO.form
     subst hq
     rw [uh HL] at hO
     rw [uh HL]
     have OR1:=hide hO.1
     have B1:=hide (bl_tr (uh B0) hO.2)
     have XS1:=hide ((uh XS).below hO.2)
     have XR1:=hide ((uh XR).below hO.2)
     have XT1:=hide ((uh XT).below hO.2)
     have x1:=(uh XT1).cell
     have f1:=(uh XT1).frozen
     clear hO
     have XT2:Hid (Box (w1.setCell ⟨w.heap.size + 1 + 1,4,none⟩ (.slice q1 M d1)) (w.heap.size + 1 + 1) #[.int .i64 9,.slice none 0 0,.slice none 0 0,.slice none 0 0,.slice q1 M d1] 80):=hide ((uh XT1).same 4 (.slice q1 M d1))
     have XS2:=hide ((uh XS1).other (show w.heap.size ≠ w.heap.size + 1 + 1 by omega) 4 (.slice q1 M d1))
     have XR2:=hide ((uh XR1).other (show w.heap.size + 1 ≠ w.heap.size + 1 + 1 by omega) 4 (.slice q1 M d1))
     have B2:=hide ((uh B1).setCell (p:=⟨w.heap.size + 1 + 1,4,none⟩) (show w.heap.size ≤ w.heap.size + 1 + 1 by omega) (.slice q1 M d1))
     have OR2:=hide (ownsRow_stay (uh OR1) (show w.heap.size + 1 + 1 < _ by simp) (Stay.set (w.heap.size + 1 + 1) w1 4 (.slice q1 M d1)))
     have x2:=(uh XT2).cell
     clear XS XR XT B0 OR1 XS1 XR1 XT1 B1
     go_wp2_with fail
     generalize w1.setCell ⟨w.heap.size + 1 + 1,4,none⟩ (.slice q1 M d1) = W at B2 XS2 XR2 XT2 OR2 x2 ⊢
     have B0:=B2
     have XS:=XS2
     have XR:=XR2
     have XT:=XT2
     have xs:=(uh XS).cell
     have xt:=(uh XT).cell
     have xr:=(uh XR).cell
     have fr:=(uh XR).frozen
     have xsd:=((uh XS).below (bdrewp W)).cell
     have xtd:=((uh XT).below (bdrewp W)).cell
     have xrd:=((uh XR).below (bdrewp W)).cell
     have frd:=((uh XR).below (bdrewp W)).frozen
     go_region_held3 (fun v => (∀ j,v.cell? ⟨w.heap.size,j,none⟩ = (#[.slice qf nf cf,.slice qs M cs,.slice qn nn cn,.slice qr nr cr,.bool false]:Array Value)[j]?) ∧ (∀ j,v.cell? ⟨w.heap.size + 1 + 1,j,none⟩ = (#[.int .i64 9,.slice none 0 0,.slice none 0 0,.slice none 0 0,.slice q1 M d1]:Array Value)[j]?)) (refine ⟨?_,?_⟩ <;> with_reducible assumption)
      ((go_at_call 235; (refine (uh CL _).mono ?_; rintro e w3 ⟨rfl,hb⟩; have B1:=hide (bl_tr (uh B0) (bl_tr (bdrewp W) hb)); have BD:=hide (bl_tr (bdrewp W) hb); have XR1:=hide ((uh XR).below (bl_tr (bdrewp W) hb)); have ys:=((uh XS).below (bl_tr (bdrewp W) hb)).cell; have yt:=((uh XT).below (bl_tr (bdrewp W) hb)).cell; have yr:=(uh XR1).cell; have gr:=(uh XR1).frozen; have zs:=(((uh XS).below (bl_tr (bdrewp W) hb)).off5 (show w.heap.size ≠ w.heap.size + 1 by omega) (.int .i64 9) (.slice none 0 0) (.slice none 0 0) (.slice none 0 0) (.slice q1 M d1)).cell; have zt:=(((uh XT).below (bl_tr (bdrewp W) hb)).off5 (show w.heap.size + 1 + 1 ≠ w.heap.size + 1 by omega) (.int .i64 9) (.slice none 0 0) (.slice none 0 0) (.slice none 0 0) (.slice q1 M d1)).cell; clear hb)))
     go_wp2_with fail
     have Y5:=hide ((uh XR1).set5 (.int .i64 9) (.slice none 0 0) (.slice none 0 0) (.slice none 0 0) (.slice q1 M d1))
     have B5:=hide (bset5 (uh B1) (show w.heap.size ≤ w.heap.size + 1 by omega) (.int .i64 9) (.slice none 0 0) (.slice none 0 0) (.slice none 0 0) (.slice q1 M d1))
     have OR5:=hide (ownsRow_base (ownsRow_set5 (ownsRow_bel (uh OR2) (show 0 < _ by simp) (uh BD)) (show w.heap.size + 1 < _ by simp) (.int .i64 9) (.slice none 0 0) (.slice none 0 0) (.slice none 0 0) (.slice q1 M d1)) (show w.heap.size ≤ _ by simp; omega))
     refine bodyPost_ret ?_ rfl ⟨q1,d1,rfl,hide ⟨own_len (uh OR5) (uh HL) rfl,uh B5⟩⟩
     simp [results,Tryz.results185,go_sem,(uh Y5).cell]
    ·have c3:(((nf:Int) + (M:Int) + (nn:Int)) == (M:Int)) = false:=by simp; omega
     rw [show decide (true = true ∧ M = M ∧ nf = 0 ∧ nn = 0) = false from decide_eq_false (fun h => c2 h.2.2)]
     have HH:=hide c2
     clear c2
     go_enter Tryz.func185,Tryz.ntmps185
     go_wp2_with fail
     refine (uh CT _ (uh B0)).mono ?_
     rintro e w1 ⟨v,rfl,hO⟩
     obtain ⟨q1,d1,hq,_,_⟩:=hO.form
     subst hq
     rw [uh HL] at hO
     rw [uh HL]
     have OR1:=hide hO.1
     have B1:=hide (bl_tr (uh B0) hO.2)
     have XS1:=hide ((uh XS).below hO.2)
     have XR1:=hide ((uh XR).below hO.2)
     have XT1:=hide ((uh XT).below hO.2)
     have x1:=(uh XT1).cell
     have f1:=(uh XT1).frozen
     clear hO
     have XT2:Hid (Box (w1.setCell ⟨w.heap.size + 1 + 1,4,none⟩ (.slice q1 M d1)) (w.heap.size + 1 + 1) #[.int .i64 9,.slice none 0 0,.slice none 0 0,.slice none 0 0,.slice q1 M d1] 80):=hide ((uh XT1).same 4 (.slice q1 M d1))
     have XS2:=hide ((uh XS1).other (show w.heap.size ≠ w.heap.size + 1 + 1 by omega) 4 (.slice q1 M d1))
     have XR2:=hide ((uh XR1).other (show w.heap.size + 1 ≠ w.heap.size + 1 + 1 by omega) 4 (.slice q1 M d1))
     have B2:=hide ((uh B1).setCell (p:=⟨w.heap.size + 1 + 1,4,none⟩) (show w.heap.size ≤ w.heap.size + 1 + 1 by omega) (.slice q1 M d1))
     have OR2:=hide (ownsRow_stay (uh OR1) (show w.heap.size + 1 + 1 < _ by simp) (Stay.set (w.heap.size + 1 + 1) w1 4 (.slice q1 M d1)))
     have x2:=(uh XT2).cell
     clear XS XR XT B0 OR1 XS1 XR1 XT1 B1
     go_wp2_with fail
     generalize w1.setCell ⟨w.heap.size + 1 + 1,4,none⟩ (.slice q1 M d1) = W at B2 XS2 XR2 XT2 OR2 x2 ⊢
     have B0:=B2
     have XS:=XS2
     have XR:=XR2
     have XT:=XT2
     have xs:=(uh XS).cell
     have xt:=(uh XT).cell
     have xr:=(uh XR).cell
     have fr:=(uh XR).frozen
     have xsd:=((uh XS).below (bdrewp W)).cell
     have xtd:=((uh XT).below (bdrewp W)).cell
     have xrd:=((uh XR).below (bdrewp W)).cell
     have frd:=((uh XR).below (bdrewp W)).frozen
     go_region_held3 (fun v => (∀ j,v.cell? ⟨w.heap.size,j,none⟩ = (#[.slice qf nf cf,.slice qs M cs,.slice qn nn cn,.slice qr nr cr,.bool false]:Array Value)[j]?) ∧ (∀ j,v.cell? ⟨w.heap.size + 1 + 1,j,none⟩ = (#[.int .i64 9,.slice none 0 0,.slice none 0 0,.slice none 0 0,.slice q1 M d1]:Array Value)[j]?)) (refine ⟨?_,?_⟩ <;> with_reducible assumption)
      ((go_at_call 235; (refine (uh CL _).mono ?_; rintro e w3 ⟨rfl,hb⟩; have B1:=hide (bl_tr (uh B0) (bl_tr (bdrewp W) hb)); have BD:=hide (bl_tr (bdrewp W) hb); have XR1:=hide ((uh XR).below (bl_tr (bdrewp W) hb)); have ys:=((uh XS).below (bl_tr (bdrewp W) hb)).cell; have yt:=((uh XT).below (bl_tr (bdrewp W) hb)).cell; have yr:=(uh XR1).cell; have gr:=(uh XR1).frozen; have zs:=(((uh XS).below (bl_tr (bdrewp W) hb)).off5 (show w.heap.size ≠ w.heap.size + 1 by omega) (.int .i64 9) (.slice none 0 0) (.slice none 0 0) (.slice none 0 0) (.slice q1 M d1)).cell; have zt:=(((uh XT).below (bl_tr (bdrewp W) hb)).off5 (show w.heap.size + 1 + 1 ≠ w.heap.size + 1 by omega) (.int .i64 9) (.slice none 0 0) (.slice none 0 0) (.slice none 0 0) (.slice q1 M d1)).cell; clear hb)))
     go_wp2_with fail
     have Y5:=hide ((uh XR1).set5 (.int .i64 9) (.slice none 0 0) (.slice none 0 0) (.slice none 0 0) (.slice q1 M d1))
     have B5:=hide (bset5 (uh B1) (show w.heap.size ≤ w.heap.size + 1 by omega) (.int .i64 9) (.slice none 0 0) (.slice none 0 0) (.slice none 0 0) (.slice q1 M d1))
     have OR5:=hide (ownsRow_base (ownsRow_set5 (ownsRow_bel (uh OR2) (show 0 < _ by simp) (uh BD)) (show w.heap.size + 1 < _ by simp) (.int .i64 9) (.slice none 0 0) (.slice none 0 0) (.slice none 0 0) (.slice q1 M d1)) (show w.heap.size ≤ _ by simp; omega))
     refine bodyPost_ret ?_ rfl ⟨q1,d1,rfl,hide ⟨own_len (uh OR5) (uh HL) rfl,uh B5⟩⟩
     simp [results,Tryz.results185,go_sem,(uh Y5).cell]
   ·have c3:((M:Int) == (N:Int)) = false:=by simp; omega
    have c4:(M == N) = false:=by simpa using c1
    have c5:decide ((M:Int) = (N:Int)) = false:=by simp; omega
    have c7:¬ (M:Int) = (N:Int):=by omega
    rw [show decide (true = true ∧ M = N ∧ nf = 0 ∧ nn = 0) = false from decide_eq_false (fun h => c1 h.2.1)]
    go_enter Tryz.func185,Tryz.ntmps185
    go_wp2_with fail
    refine (uh CT _ (uh B0)).mono ?_
    rintro e w1 ⟨v,rfl,hO⟩
    obtain ⟨q1,d1,hq,_,_⟩:=hO.form
    subst hq
    rw [uh HL] at hO
    rw [uh HL]
    have OR1:=hide hO.1
    have B1:=hide (bl_tr (uh B0) hO.2)
    have XS1:=hide ((uh XS).below hO.2)
    have XR1:=hide ((uh XR).below hO.2)
    have XT1:=hide ((uh XT).below hO.2)
    have x1:=(uh XT1).cell
    have f1:=(uh XT1).frozen
    clear hO
    have XT2:Hid (Box (w1.setCell ⟨w.heap.size + 1 + 1,4,none⟩ (.slice q1 M d1)) (w.heap.size + 1 + 1) #[.int .i64 9,.slice none 0 0,.slice none 0 0,.slice none 0 0,.slice q1 M d1] 80):=hide ((uh XT1).same 4 (.slice q1 M d1))
    have XS2:=hide ((uh XS1).other (show w.heap.size ≠ w.heap.size + 1 + 1 by omega) 4 (.slice q1 M d1))
    have XR2:=hide ((uh XR1).other (show w.heap.size + 1 ≠ w.heap.size + 1 + 1 by omega) 4 (.slice q1 M d1))
    have B2:=hide ((uh B1).setCell (p:=⟨w.heap.size + 1 + 1,4,none⟩) (show w.heap.size ≤ w.heap.size + 1 + 1 by omega) (.slice q1 M d1))
    have OR2:=hide (ownsRow_stay (uh OR1) (show w.heap.size + 1 + 1 < _ by simp) (Stay.set (w.heap.size + 1 + 1) w1 4 (.slice q1 M d1)))
    have x2:=(uh XT2).cell
    clear XS XR XT B0 OR1 XS1 XR1 XT1 B1
    go_wp2_with fail
    generalize w1.setCell ⟨w.heap.size + 1 + 1,4,none⟩ (.slice q1 M d1) = W at B2 XS2 XR2 XT2 OR2 x2 ⊢
    have B0:=B2
    have XS:=XS2
    have XR:=XR2
    have XT:=XT2
    have xs:=(uh XS).cell
    have xt:=(uh XT).cell
    have xr:=(uh XR).cell
    have fr:=(uh XR).frozen
    have xsd:=((uh XS).below (bdrewp W)).cell
    have xtd:=((uh XT).below (bdrewp W)).cell
    have xrd:=((uh XR).below (bdrewp W)).cell
    have frd:=((uh XR).below (bdrewp W)).frozen
    go_region
    go_wp2_with fail
    have Y5:=hide (((uh XR).set5 (.int .i64 9) (.slice none 0 0) (.slice none 0 0) (.slice none 0 0) (.slice q1 M d1)).below (bdrewp _))
    have B5:=hide (bl_tr (bset5 (uh B0) (show w.heap.size ≤ w.heap.size + 1 by omega) (.int .i64 9) (.slice none 0 0) (.slice none 0 0) (.slice none 0 0) (.slice q1 M d1)) (bdrewp _))
    have OR5:=hide (ownsRow_base (ownsRow_bel (ownsRow_set5 (uh OR2) (show w.heap.size + 1 < _ by simp) (.int .i64 9) (.slice none 0 0) (.slice none 0 0) (.slice none 0 0) (.slice q1 M d1)) (show 0 < _ by simp) (bdrewp _)) (show w.heap.size ≤ _ by simp; omega))
    refine bodyPost_ret ?_ rfl ⟨q1,d1,rfl,hide ⟨own_len (uh OR5) (uh HL) rfl,uh B5⟩⟩
    simp [results,Tryz.results185,go_sem,(uh Y5).cell]
end Go.Proofs.YtmdlaahdgjegcaaGreat
