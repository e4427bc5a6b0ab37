import Derived.Test.YtnmciappielkcaaV23
import Derived.Test.YtnmciappielkcaaV29
set_option maxRecDepth 100000
set_option maxHeartbeats 8000000
namespace Go.Proofs.Ytnmciappielkcaa
open Go.RowKit
set_option linter.unusedVariables false
set_option linter.unusedSimpArgs false
theorem rsame7_true (p q:Option Addr) (cap cap':Nat) (xs ys:List Int) (w:World) (h1:Ints .i64 w p cap xs) (h2:Ints .i64 w q cap' ys) (he:xs = ys) :
  Calls Try.prog 23 #[.slice p xs.length cap,.slice q ys.length cap'] w fun e w' => e = .returned (.bool true) ∧ Below w.heap.size w w':=by
 refine (rsame7_any p q cap cap' xs ys w h1 h2).mono ?_
 rintro e w1 ⟨rfl,hb⟩
 exact ⟨ret_bool (by simp [he]),hb⟩
theorem rsame7_false (p q:Option Addr) (cap cap':Nat) (xs ys:List Int) (w:World) (h1:Ints .i64 w p cap xs) (h2:Ints .i64 w q cap' ys) (he:¬ xs = ys) :
  Calls Try.prog 23 #[.slice p xs.length cap,.slice q ys.length cap'] w fun e w' => e = .returned (.bool false) ∧ Below w.heap.size w w':=by
 refine (rsame7_any p q cap cap' xs ys w h1 h2).mono ?_
 rintro e w1 ⟨rfl,hb⟩
 exact ⟨ret_bool (by simp [he]),hb⟩
theorem al27 (w:World) (a b:Obj):Below w.heap.size w ((w.alloc a).alloc b):=((Below.refl _ _).alloc (Nat.le_refl _) _).alloc (by simp) _
theorem take_getD7 {α:Type} [Inhabited α] (xs:List α) (n:Nat) (h:n < xs.length):xs.take (n + 1) = xs.take n ++ [xs.getD n default]:=by
 rw [List.take_add_one]; simp [List.getElem?_eq_getElem h]
theorem take_eq7 {α:Type} [Inhabited α] {xs ys:List α} {n:Nat} (h1:n < xs.length) (h2:n < ys.length) (h:xs.take n = ys.take n) (e:xs.getD n default = ys.getD n default):xs.take (n + 1) = ys.take (n + 1):=by
 rw [take_getD7 xs n h1,take_getD7 ys n h2,h,e]
theorem take_ne7 {α:Type} [Inhabited α] {xs ys:List α} {n:Nat} (e:¬ xs.getD n default = ys.getD n default):¬ xs = ys:=fun h => e (by rw [h])
theorem take_all7 {α:Type} {xs ys:List α} {n:Nat} (hl:xs.length = ys.length) (hn:n = xs.length) (h:xs.take n = ys.take n):xs = ys:=by
 rw [hn,List.take_length,hl,List.take_length] at h; exact h
theorem rten_same7 (T U:Ten) (A C:TA) (w:World) (h:TenIn w T A) (k:TenIn w U C) :
  Calls Try.prog 24 #[tenV T A,tenV U C] w fun e w' => e = .returned (.bool (decide (T = U))) ∧ Below w.heap.size w w':=by
 obtain ⟨ty,ds,fs,is,bs⟩:=T
 obtain ⟨pd,cd,pf,cf,pi,ci,pb,cb⟩:=A
 obtain ⟨a0,a1,a2,a3,a4⟩:=h
 obtain ⟨ty',ds',fs',is',bs'⟩:=U
 obtain ⟨pd',cd',pf',cf',pi',ci',pb',cb'⟩:=C
 obtain ⟨e0,e1,e2,e3,e4⟩:=k
 simp only at a0 a1 a2 a3 a4 e0 e1 e2 e3 e4
 unfold tenV tenCells
 simp only
 have A1:=hide a1
 have A2:=hide a2
 have A3:=hide a3
 have A4:=hide a4
 have E1:=hide e1
 have E2:=hide e2
 have E3:=hide e3
 have E4:=hide e4
 have nf:=a2.len
 have ni:=a3.len
 have nb:=a4.len
 have nf':=e2.len
 have ni':=e3.len
 have nb':=e4.len
 clear a0 a1 a2 a3 a4 e0 e1 e2 e3 e4
 have no:∀ b:Bool,b = false → ¬ (ty,ds,fs,is,bs) = (ty',ds',fs',is',bs') → Ending.returned (.bool b) = .returned (.bool (decide ((ty,ds,fs,is,bs) = (ty',ds',fs',is',bs')))):=fun b h1 h2 => ret_bool (by rw [h1]; exact (decide_eq_false h2).symm)
 have NO:=hide no
 clear no
 by_cases ht:ty = ty'
 ·have tt:(ty != ty') = false:=bneFp ht
  by_cases hd:ds = ds'
  ·have SM:=hide (fun w h1 h2 => rsame7_true pd pd' cd cd' ds ds' w h1 h2 hd)
   have HD:=hide hd
   have HT:=hide ht
   clear ht hd
   by_cases hl0:fs.length = fs'.length
   ·have tl0:((fs.length:Int) != (fs'.length:Int)) = false:=bneFp (by omega)
    have HL0:=hide hl0
    clear hl0
    by_cases hl1:is.length = is'.length
    ·have tl1:((is.length:Int) != (is'.length:Int)) = false:=bneFp (by omega)
     have HL1:=hide hl1
     clear hl1
     by_cases hl2:bs.length = bs'.length
     ·have tl2:((bs.length:Int) != (bs'.length:Int)) = false:=bneFp (by omega)
      have HL2:=hide hl2
      clear hl2
      go_enter Try.func24,Try.ntmps24
      go_wp2_with fail
      refine (uh SM _ ((uh A1).below (al27 _ _ _)) ((uh E1).below (al27 _ _ _))).mono ?_
      rintro e w1 ⟨rfl,hb⟩
      have X1:=hide (Box.below (Box.alloc (Box.new w #[.int .i64 ty,.slice pd ds.length cd,.slice pf fs.length cf,.slice pi is.length ci,.slice pb bs.length cb] 33) _) hb)
      have X2:=hide (Box.below (Box.new (w.alloc _) #[.int .i64 ty',.slice pd' ds'.length cd',.slice pf' fs'.length cf',.slice pi' is'.length ci',.slice pb' bs'.length cb'] 33) hb)
      simp only [alloc_size6] at X2
      have B:=hide (bl_tr (al27 _ _ _) hb)
      have x1:=(uh X1).cell
      have x2:=(uh X2).cell
      clear hb X1 X2
      go_wp2_with fail
      clear tl0 tl1 tl2 tt
      go_loopw [5] (fun iv wr => ∃ n:Nat,iv = .int .i64 n ∧ n ≤ fs.length ∧ Hid (fs.take n = fs'.take n) ∧ ∃ m,wr = w1.drewN m) (fun iv _ => fs.length - (intOf iv).toNat)
      case atStart => exact ⟨0,rfl,by omega,hide (by simp),0,rfl⟩
      case round =>
       obtain ⟨n0,rfl,hn0,HT0,m0,rfl⟩:=hrel
       by_cases hlt:n0 < fs.length
       ·have hlt2:n0 < fs'.length:=by rw [← uh HL0]; exact hlt
        obtain ⟨b,o,rfl,hb,hc⟩:=((uh A2).below (uh B)).lies (by omega)
        obtain ⟨b',o',rfl,hb',hc'⟩:=((uh E2).below (uh B)).lies (by omega)
        have hi:(n0:Int) < (fs.length:Int):=by omega
        have hi2:(n0:Int) < (fs'.length:Int):=by omega
        have k1:=hc n0 hlt
        have k2:=hc' n0 hlt2
        have TE:=hide (fun e => take_eq7 hlt hlt2 (uh HT0) e)
        have TN:=hide (take_ne7 (xs:=fs) (ys:=fs') (n:=n0))
        have e0:∀ (l:List Int),l.getD n0 default = l.getD n0 0:=fun _ => rfl
        simp only [e0] at TE TN k1 k2
        clear hc hc' hlt2 HT0 e0
        generalize fs.getD n0 0 = x at k1 TE TN
        generalize fs'.getD n0 0 = y at k2 TE TN
        by_cases hxy:x = y
        ·have HT2:=hide (uh TE hxy)
         subst hxy
         clear TE TN
         go_wp2_with fail
         go_quiet (fail)
         go_wp2_with fail
         go_roundw
         case rel => exact ⟨n0 + 1,by go_num,by omega,HT2,_,rfl⟩
         case measure => simp [intOf]; omega
        ·have hne:(x == y) = false:=by simp [hxy]
         have HNE:Hid (¬ (ty,ds,fs,is,bs) = (ty',ds',fs',is',bs')):=hide (fun h => uh TN hxy (by simp only [Prod.mk.injEq] at h; exact h.2.2.1))
         clear TE TN hxy
         go_wp2_with fail
         go_quiet (fail)
         go_wp2_with fail
         go_ret
         exact ⟨uh NO _ rfl (uh HNE),bw_drew (bw_drew (uh B) _) _⟩
       ·have hi:¬ (n0:Int) < (fs.length:Int):=by omega
        have Q0:=hide (take_all7 (uh HL0) (show n0 = fs.length by omega) (uh HT0))
        clear HT0
        go_wp2_with fail
        go_loopw [6] (fun iv wr => ∃ n:Nat,iv = .int .i64 n ∧ n ≤ is.length ∧ Hid (is.take n = is'.take n) ∧ ∃ m,wr = w1.drewN m) (fun iv _ => is.length - (intOf iv).toNat)
        case atStart => exact ⟨0,rfl,by omega,hide (by simp),m0,rfl⟩
        case round =>
         obtain ⟨n1,rfl,hn1,HT1,m1,rfl⟩:=hrel
         by_cases hlt:n1 < is.length
         ·have hlt2:n1 < is'.length:=by rw [← uh HL1]; exact hlt
          obtain ⟨b,o,rfl,hb,hc⟩:=((uh A3).below (uh B)).lies (by omega)
          obtain ⟨b',o',rfl,hb',hc'⟩:=((uh E3).below (uh B)).lies (by omega)
          have hi:(n1:Int) < (is.length:Int):=by omega
          have hi2:(n1:Int) < (is'.length:Int):=by omega
          have k1:=hc n1 hlt
          have k2:=hc' n1 hlt2
          have TE:=hide (fun e => take_eq7 hlt hlt2 (uh HT1) e)
          have TN:=hide (take_ne7 (xs:=is) (ys:=is') (n:=n1))
          have e0:∀ (l:List Int),l.getD n1 default = l.getD n1 0:=fun _ => rfl
          simp only [e0] at TE TN k1 k2
          clear hc hc' hlt2 HT1 e0
          generalize is.getD n1 0 = x at k1 TE TN
          generalize is'.getD n1 0 = y at k2 TE TN
          by_cases hxy:x = y
          ·have HT2:=hide (uh TE hxy)
           subst hxy
           clear TE TN
           go_wp2_with fail
           go_quiet (fail)
           go_wp2_with fail
           go_roundw
           case rel => exact ⟨n1 + 1,by go_num,by omega,HT2,_,rfl⟩
           case measure => simp [intOf]; omega
          ·have hne:(x == y) = false:=by simp [hxy]
           have HNE:Hid (¬ (ty,ds,fs,is,bs) = (ty',ds',fs',is',bs')):=hide (fun h => uh TN hxy (by simp only [Prod.mk.injEq] at h; exact h.2.2.2.1))
           clear TE TN hxy
           go_wp2_with fail
           go_quiet (fail)
           go_wp2_with fail
           go_ret
           exact ⟨uh NO _ rfl (uh HNE),bw_drew (bw_drew (uh B) _) _⟩
         ·have hi:¬ (n1:Int) < (is.length:Int):=by omega
          have Q1:=hide (take_all7 (uh HL1) (show n1 = is.length by omega) (uh HT1))
          clear HT1
          go_wp2_with fail
          go_loopw [7] (fun iv wr => ∃ n:Nat,iv = .int .i64 n ∧ n ≤ bs.length ∧ Hid (bs.take n = bs'.take n) ∧ ∃ m,wr = w1.drewN m) (fun iv _ => bs.length - (intOf iv).toNat)
          case atStart => exact ⟨0,rfl,by omega,hide (by simp),m1,rfl⟩
          case round =>
           obtain ⟨n2,rfl,hn2,HT2,m2,rfl⟩:=hrel
           by_cases hlt:n2 < bs.length
           ·have hlt2:n2 < bs'.length:=by rw [← uh HL2]; exact hlt
            obtain ⟨b,o,rfl,hb,hc⟩:=((uh A4).below (uh B)).lies (by omega)
            obtain ⟨b',o',rfl,hb',hc'⟩:=((uh E4).below (uh B)).lies (by omega)
            have hi:(n2:Int) < (bs.length:Int):=by omega
            have hi2:(n2:Int) < (bs'.length:Int):=by omega
            have k1:=hc n2 hlt
            have k2:=hc' n2 hlt2
            have TE:=hide (fun e => take_eq7 hlt hlt2 (uh HT2) e)
            have TN:=hide (take_ne7 (xs:=bs) (ys:=bs') (n:=n2))
            have e0:∀ (l:List Bool),l.getD n2 default = l.getD n2 false:=fun _ => rfl
            simp only [e0] at TE TN k1 k2
            clear hc hc' hlt2 HT2 e0
            generalize bs.getD n2 false = x at k1 TE TN
            generalize bs'.getD n2 false = y at k2 TE TN
            by_cases hxy:x = y
            ·have HT2:=hide (uh TE hxy)
             subst hxy
             clear TE TN
             go_wp2_with fail
             go_quiet (fail)
             go_wp2_with fail
             go_roundw
             case rel => exact ⟨n2 + 1,by go_num,by omega,HT2,_,rfl⟩
             case measure => simp [intOf]; omega
            ·have hne:(x == y) = false:=by simp [hxy]
             have HNE:Hid (¬ (ty,ds,fs,is,bs) = (ty',ds',fs',is',bs')):=hide (fun h => uh TN hxy (by simp only [Prod.mk.injEq] at h; exact h.2.2.2.2))
             clear TE TN hxy
             go_wp2_with fail
             go_quiet (fail)
             go_wp2_with fail
             go_ret
             exact ⟨uh NO _ rfl (uh HNE),bw_drew (bw_drew (uh B) _) _⟩
           ·have hi:¬ (n2:Int) < (bs.length:Int):=by omega
            have Q2:=hide (take_all7 (uh HL2) (show n2 = bs.length by omega) (uh HT2))
            clear HT2
            go_wp2_with fail
            go_ret
            exact ⟨ret_bool (by simp [uh HT,uh HD,uh Q0,uh Q1,uh Q2]),bw_drew (uh B) _⟩
     ·have tl2:((bs.length:Int) != (bs'.length:Int)) = true:=bneTp (by omega)
      have HNE:Hid (¬ (ty,ds,fs,is,bs) = (ty',ds',fs',is',bs')):=hide (fun h => hl2 (by simp only [Prod.mk.injEq] at h; rw [h.2.2.2.2]))
      clear hl2
      go_enter Try.func24,Try.ntmps24
      go_wp2_with fail
      refine (uh SM _ ((uh A1).below (al27 _ _ _)) ((uh E1).below (al27 _ _ _))).mono ?_
      rintro e w1 ⟨rfl,hb⟩
      have X1:=hide (Box.below (Box.alloc (Box.new w #[.int .i64 ty,.slice pd ds.length cd,.slice pf fs.length cf,.slice pi is.length ci,.slice pb bs.length cb] 33) _) hb)
      have X2:=hide (Box.below (Box.new (w.alloc _) #[.int .i64 ty',.slice pd' ds'.length cd',.slice pf' fs'.length cf',.slice pi' is'.length ci',.slice pb' bs'.length cb'] 33) hb)
      simp only [alloc_size6] at X2
      have B:=hide (bl_tr (al27 _ _ _) hb)
      have x1:=(uh X1).cell
      have x2:=(uh X2).cell
      clear hb X1 X2
      go_wp2_with fail
      go_ret
      exact ⟨uh NO _ rfl (uh HNE),uh B⟩
    ·have tl1:((is.length:Int) != (is'.length:Int)) = true:=bneTp (by omega)
     have HNE:Hid (¬ (ty,ds,fs,is,bs) = (ty',ds',fs',is',bs')):=hide (fun h => hl1 (by simp only [Prod.mk.injEq] at h; rw [h.2.2.2.1]))
     clear hl1
     go_enter Try.func24,Try.ntmps24
     go_wp2_with fail
     refine (uh SM _ ((uh A1).below (al27 _ _ _)) ((uh E1).below (al27 _ _ _))).mono ?_
     rintro e w1 ⟨rfl,hb⟩
     have X1:=hide (Box.below (Box.alloc (Box.new w #[.int .i64 ty,.slice pd ds.length cd,.slice pf fs.length cf,.slice pi is.length ci,.slice pb bs.length cb] 33) _) hb)
     have X2:=hide (Box.below (Box.new (w.alloc _) #[.int .i64 ty',.slice pd' ds'.length cd',.slice pf' fs'.length cf',.slice pi' is'.length ci',.slice pb' bs'.length cb'] 33) hb)
     simp only [alloc_size6] at X2
     have B:=hide (bl_tr (al27 _ _ _) hb)
     have x1:=(uh X1).cell
     have x2:=(uh X2).cell
     clear hb X1 X2
     go_wp2_with fail
     go_ret
     exact ⟨uh NO _ rfl (uh HNE),uh B⟩
   ·have tl0:((fs.length:Int) != (fs'.length:Int)) = true:=bneTp (by omega)
    have HNE:Hid (¬ (ty,ds,fs,is,bs) = (ty',ds',fs',is',bs')):=hide (fun h => hl0 (by simp only [Prod.mk.injEq] at h; rw [h.2.2.1]))
    clear hl0
    go_enter Try.func24,Try.ntmps24
    go_wp2_with fail
    refine (uh SM _ ((uh A1).below (al27 _ _ _)) ((uh E1).below (al27 _ _ _))).mono ?_
    rintro e w1 ⟨rfl,hb⟩
    have X1:=hide (Box.below (Box.alloc (Box.new w #[.int .i64 ty,.slice pd ds.length cd,.slice pf fs.length cf,.slice pi is.length ci,.slice pb bs.length cb] 33) _) hb)
    have X2:=hide (Box.below (Box.new (w.alloc _) #[.int .i64 ty',.slice pd' ds'.length cd',.slice pf' fs'.length cf',.slice pi' is'.length ci',.slice pb' bs'.length cb'] 33) hb)
    simp only [alloc_size6] at X2
    have B:=hide (bl_tr (al27 _ _ _) hb)
    have x1:=(uh X1).cell
    have x2:=(uh X2).cell
    clear hb X1 X2
    go_wp2_with fail
    go_ret
    exact ⟨uh NO _ rfl (uh HNE),uh B⟩
  ·have SM:=hide (fun w h1 h2 => rsame7_false pd pd' cd cd' ds ds' w h1 h2 hd)
   have HNE:Hid (¬ (ty,ds,fs,is,bs) = (ty',ds',fs',is',bs')):=hide (fun h => hd (by simp only [Prod.mk.injEq] at h; exact h.2.1))
   clear hd ht
   go_enter Try.func24,Try.ntmps24
   go_wp2_with fail
   refine (uh SM _ ((uh A1).below (al27 _ _ _)) ((uh E1).below (al27 _ _ _))).mono ?_
   rintro e w1 ⟨rfl,hb⟩
   have X1:=hide (Box.below (Box.alloc (Box.new w #[.int .i64 ty,.slice pd ds.length cd,.slice pf fs.length cf,.slice pi is.length ci,.slice pb bs.length cb] 33) _) hb)
   have X2:=hide (Box.below (Box.new (w.alloc _) #[.int .i64 ty',.slice pd' ds'.length cd',.slice pf' fs'.length cf',.slice pi' is'.length ci',.slice pb' bs'.length cb'] 33) hb)
   simp only [alloc_size6] at X2
   have B:=hide (bl_tr (al27 _ _ _) hb)
   have x1:=(uh X1).cell
   have x2:=(uh X2).cell
   clear hb X1 X2
   go_wp2_with fail
   go_ret
   exact ⟨uh NO _ rfl (uh HNE),uh B⟩
 ·have tt:(ty != ty') = true:=bneTp ht
  have HNE:Hid (¬ (ty,ds,fs,is,bs) = (ty',ds',fs',is',bs')):=hide (fun h => ht (by simp only [Prod.mk.injEq] at h; exact h.1))
  clear ht
  go_enter Try.func24,Try.ntmps24
  go_wp2_with fail
  go_ret
  exact ⟨uh NO _ rfl (uh HNE),al27 _ _ _⟩
theorem FIn.k0 {B g:Nat} {w:World} {cs:Array Value} {k:Nat}:∀ {f:FV},FIn B g w cs k f → kindF f = 0 → cs[k]? = some (.int .i64 f.x)
 | ⟨0,_,_,_,_⟩,h,e => h.1
 | ⟨1,_,_,_,_⟩,h,e => by simp [kindF] at e
 | ⟨2,_,_,_,_⟩,h,e => by simp [kindF] at e
 | ⟨3,_,_,_,_⟩,h,e => by simp [kindF] at e
 | ⟨_ + 4,_,_,_,_⟩,h,e => by simp [kindF] at e
theorem FIn.k1 {B g:Nat} {w:World} {cs:Array Value} {k:Nat}:∀ {f:FV},FIn B g w cs k f → kindF f = 1 → cs[k]? = some (.int .u32 f.x)
 | ⟨0,_,_,_,_⟩,h,e => by simp [kindF] at e
 | ⟨1,_,_,_,_⟩,h,e => h.1
 | ⟨2,_,_,_,_⟩,h,e => by simp [kindF] at e
 | ⟨3,_,_,_,_⟩,h,e => by simp [kindF] at e
 | ⟨_ + 4,_,_,_,_⟩,h,e => by simp [kindF] at e
theorem FIn.k2 {B g:Nat} {w:World} {cs:Array Value} {k:Nat}:∀ {f:FV},FIn B g w cs k f → kindF f = 2 → cs[k]? = some (.bool f.y)
 | ⟨0,_,_,_,_⟩,h,e => by simp [kindF] at e
 | ⟨1,_,_,_,_⟩,h,e => by simp [kindF] at e
 | ⟨2,_,_,_,_⟩,h,e => h
 | ⟨3,_,_,_,_⟩,h,e => by simp [kindF] at e
 | ⟨_ + 4,_,_,_,_⟩,h,e => by simp [kindF] at e
theorem FIn.k3 {B g:Nat} {w:World} {cs:Array Value} {k:Nat}:∀ {f:FV},FIn B g w cs k f → kindF f = 3 → ∃ p c,cs[k]? = some (.slice p f.xs.length c) ∧ OwL .i64 B g w p c f.xs
 | ⟨0,_,_,_,_⟩,h,e => by simp [kindF] at e
 | ⟨1,_,_,_,_⟩,h,e => by simp [kindF] at e
 | ⟨2,_,_,_,_⟩,h,e => by simp [kindF] at e
 | ⟨3,_,_,_,_⟩,h,e => h
 | ⟨_ + 4,_,_,_,_⟩,h,e => by simp [kindF] at e
theorem FIn.k4 {B g:Nat} {w:World} {cs:Array Value} {k:Nat}:∀ {f:FV},FIn B g w cs k f → kindF f = 4 → ∃ A:TA,(cs[k]? = some (.int .i64 f.T.1) ∧ cs[k + 1]? = some (.slice A.pd f.T.2.1.length A.cd) ∧ cs[k + 2]? = some (.slice A.pf f.T.2.2.1.length A.cf) ∧ cs[k + 3]? = some (.slice A.pi f.T.2.2.2.1.length A.ci) ∧ cs[k + 4]? = some (.slice A.pb f.T.2.2.2.2.length A.cb)) ∧ TenO B g w f.T A
 | ⟨0,_,_,_,_⟩,h,e => by simp [kindF] at e
 | ⟨1,_,_,_,_⟩,h,e => by simp [kindF] at e
 | ⟨2,_,_,_,_⟩,h,e => by simp [kindF] at e
 | ⟨3,_,_,_,_⟩,h,e => by simp [kindF] at e
 | ⟨_ + 4,_,_,_,_⟩,h,e => h
theorem SeV.open {B:Nat} {w:World} {cs:Array Value} {D:SeD} (h:SeV B w cs D):∃ p1 c1 p7 c7 p20 c20 p21 c21 p22 c22 p23 c23 A,cs = #[.int .i64 (D 0).x,.slice p1 (D 1).xs.length c1,.bool (D 2).y,.bool (D 3).y,.bool (D 4).y,.bool (D 5).y,.bool (D 6).y,.slice p7 (D 7).xs.length c7,.bool (D 8).y,.int .u32 (D 9).x,.int .u32 (D 10).x,.int .u32 (D 11).x,.bool (D 12).y,.bool (D 13).y,.bool (D 14).y,.int .i64 (D 15).x,.int .i64 (D 16).x,.bool (D 17).y,.bool (D 18).y,.int .i64 (D 19).x,.slice p20 (D 20).xs.length c20,.slice p21 (D 21).xs.length c21,.slice p22 (D 22).xs.length c22,.slice p23 (D 23).xs.length c23,.int .i64 (D 24).x,.bool (D 25).y,.bool (D 26).y,.int .i64 (D 27).x,.int .i64 (D 28).x,.int .i64 (D 29).x,.bool (D 30).y,.int .i64 (D 31).T.1,.slice A.pd (D 31).T.2.1.length A.cd,.slice A.pf (D 31).T.2.2.1.length A.cf,.slice A.pi (D 31).T.2.2.2.1.length A.ci,.slice A.pb (D 31).T.2.2.2.2.length A.cb] ∧ OwL .i64 B w.heap.size w p1 c1 (D 1).xs ∧ OwL .i64 B w.heap.size w p7 c7 (D 7).xs ∧ OwL .i64 B w.heap.size w p20 c20 (D 20).xs ∧ OwL .i64 B w.heap.size w p21 c21 (D 21).xs ∧ OwL .i64 B w.heap.size w p22 c22 (D 22).xs ∧ OwL .i64 B w.heap.size w p23 c23 (D 23).xs ∧ TenO B w.heap.size w (D 31).T A:=by
 obtain ⟨hs,hf⟩:=h
 obtain ⟨l⟩:=cs
 simp only [List.size_toArray] at hs
 match l,hs with
 | v0 :: v1 :: v2 :: v3 :: v4 :: v5 :: v6 :: v7 :: v8 :: v9 :: v10 :: v11 :: v12 :: v13 :: v14 :: v15 :: v16 :: v17 :: v18 :: v19 :: v20 :: v21 :: v22 :: v23 :: v24 :: v25 :: v26 :: v27 :: v28 :: v29 :: v30 :: v31 :: v32 :: v33 :: v34 :: v35 :: [],_ =>
   have f0:=hf 0 (by omega)
   have e0:=Option.some.inj (f0.1.k0 f0.2)
   have f1:=hf 1 (by omega)
   obtain ⟨p1,c1,e1,o1⟩:=f1.1.k3 f1.2
   replace e1:=Option.some.inj e1
   have f2:=hf 2 (by omega)
   have e2:=Option.some.inj (f2.1.k2 f2.2)
   have f3:=hf 3 (by omega)
   have e3:=Option.some.inj (f3.1.k2 f3.2)
   have f4:=hf 4 (by omega)
   have e4:=Option.some.inj (f4.1.k2 f4.2)
   have f5:=hf 5 (by omega)
   have e5:=Option.some.inj (f5.1.k2 f5.2)
   have f6:=hf 6 (by omega)
   have e6:=Option.some.inj (f6.1.k2 f6.2)
   have f7:=hf 7 (by omega)
   obtain ⟨p7,c7,e7,o7⟩:=f7.1.k3 f7.2
   replace e7:=Option.some.inj e7
   have f8:=hf 8 (by omega)
   have e8:=Option.some.inj (f8.1.k2 f8.2)
   have f9:=hf 9 (by omega)
   have e9:=Option.some.inj (f9.1.k1 f9.2)
   have f10:=hf 10 (by omega)
   have e10:=Option.some.inj (f10.1.k1 f10.2)
   have f11:=hf 11 (by omega)
   have e11:=Option.some.inj (f11.1.k1 f11.2)
   have f12:=hf 12 (by omega)
   have e12:=Option.some.inj (f12.1.k2 f12.2)
   have f13:=hf 13 (by omega)
   have e13:=Option.some.inj (f13.1.k2 f13.2)
   have f14:=hf 14 (by omega)
   have e14:=Option.some.inj (f14.1.k2 f14.2)
   have f15:=hf 15 (by omega)
   have e15:=Option.some.inj (f15.1.k0 f15.2)
   have f16:=hf 16 (by omega)
   have e16:=Option.some.inj (f16.1.k0 f16.2)
   have f17:=hf 17 (by omega)
   have e17:=Option.some.inj (f17.1.k2 f17.2)
   have f18:=hf 18 (by omega)
   have e18:=Option.some.inj (f18.1.k2 f18.2)
   have f19:=hf 19 (by omega)
   have e19:=Option.some.inj (f19.1.k0 f19.2)
   have f20:=hf 20 (by omega)
   obtain ⟨p20,c20,e20,o20⟩:=f20.1.k3 f20.2
   replace e20:=Option.some.inj e20
   have f21:=hf 21 (by omega)
   obtain ⟨p21,c21,e21,o21⟩:=f21.1.k3 f21.2
   replace e21:=Option.some.inj e21
   have f22:=hf 22 (by omega)
   obtain ⟨p22,c22,e22,o22⟩:=f22.1.k3 f22.2
   replace e22:=Option.some.inj e22
   have f23:=hf 23 (by omega)
   obtain ⟨p23,c23,e23,o23⟩:=f23.1.k3 f23.2
   replace e23:=Option.some.inj e23
   have f24:=hf 24 (by omega)
   have e24:=Option.some.inj (f24.1.k0 f24.2)
   have f25:=hf 25 (by omega)
   have e25:=Option.some.inj (f25.1.k2 f25.2)
   have f26:=hf 26 (by omega)
   have e26:=Option.some.inj (f26.1.k2 f26.2)
   have f27:=hf 27 (by omega)
   have e27:=Option.some.inj (f27.1.k0 f27.2)
   have f28:=hf 28 (by omega)
   have e28:=Option.some.inj (f28.1.k0 f28.2)
   have f29:=hf 29 (by omega)
   have e29:=Option.some.inj (f29.1.k0 f29.2)
   have f30:=hf 30 (by omega)
   have e30:=Option.some.inj (f30.1.k2 f30.2)
   have f31:=hf 31 (by omega)
   obtain ⟨A,⟨e31,e32,e33,e34,e35⟩,o31⟩:=f31.1.k4 f31.2
   replace e31:=Option.some.inj e31
   replace e32:=Option.some.inj e32
   replace e33:=Option.some.inj e33
   replace e34:=Option.some.inj e34
   replace e35:=Option.some.inj e35
   change v0 = _ at e0
   change v1 = _ at e1
   change v2 = _ at e2
   change v3 = _ at e3
   change v4 = _ at e4
   change v5 = _ at e5
   change v6 = _ at e6
   change v7 = _ at e7
   change v8 = _ at e8
   change v9 = _ at e9
   change v10 = _ at e10
   change v11 = _ at e11
   change v12 = _ at e12
   change v13 = _ at e13
   change v14 = _ at e14
   change v15 = _ at e15
   change v16 = _ at e16
   change v17 = _ at e17
   change v18 = _ at e18
   change v19 = _ at e19
   change v20 = _ at e20
   change v21 = _ at e21
   change v22 = _ at e22
   change v23 = _ at e23
   change v24 = _ at e24
   change v25 = _ at e25
   change v26 = _ at e26
   change v27 = _ at e27
   change v28 = _ at e28
   change v29 = _ at e29
   change v30 = _ at e30
   change v31 = _ at e31
   change v32 = _ at e32
   change v33 = _ at e33
   change v34 = _ at e34
   change v35 = _ at e35
   subst e0 e1 e2 e3 e4 e5 e6 e7 e8 e9 e10 e11 e12 e13 e14 e15 e16 e17 e18 e19 e20 e21 e22 e23 e24 e25 e26 e27 e28 e29 e30 e31 e32 e33 e34 e35
   exact ⟨p1,c1,p7,c7,p20,c20,p21,c21,p22,c22,p23,c23,A,rfl,o1,o7,o20,o21,o22,o23,o31⟩
theorem csame8_any {cs ds:Array Value} {D:SeD} {B B':Nat} (w:World) (h:SeV B w cs D) (k:SeV B' w ds D) :
  Calls Try.prog 7 #[.agg cs,.agg ds] w fun e w' => e = .returned (.bool true) ∧ Below w.heap.size w w':=by
 obtain ⟨p1,c1,p7,c7,p20,c20,p21,c21,p22,c22,p23,c23,A,rfl,o1,o7,o20,o21,o22,o23,o31⟩:=h.open
 obtain ⟨p1z,c1z,p7z,c7z,p20z,c20z,p21z,c21z,p22z,c22z,p23z,c23z,C,rfl,o1z,o7z,o20z,o21z,o22z,o23z,o31z⟩:=k.open
 clear h k
 have C1:=hide (fun v (hv:Below w.heap.size w v) => rsame7_true p1 p1z c1 c1z _ _ v (o1.1.below hv) (o1z.1.below hv) rfl)
 clear o1 o1z
 have C7:=hide (fun v (hv:Below w.heap.size w v) => rsame7_true p7 p7z c7 c7z _ _ v (o7.1.below hv) (o7z.1.below hv) rfl)
 clear o7 o7z
 have C20:=hide (fun v (hv:Below w.heap.size w v) => rsame7_true p20 p20z c20 c20z _ _ v (o20.1.below hv) (o20z.1.below hv) rfl)
 clear o20 o20z
 have C21:=hide (fun v (hv:Below w.heap.size w v) => rsame7_true p21 p21z c21 c21z _ _ v (o21.1.below hv) (o21z.1.below hv) rfl)
 clear o21 o21z
 have C22:=hide (fun v (hv:Below w.heap.size w v) => rsame7_true p22 p22z c22 c22z _ _ v (o22.1.below hv) (o22z.1.below hv) rfl)
 clear o22 o22z
 have C23:=hide (fun v (hv:Below w.heap.size w v) => rsame7_true p23 p23z c23 c23z _ _ v (o23.1.below hv) (o23z.1.below hv) rfl)
 clear o23 o23z
 have C31:Hid (∀ v,Below w.heap.size w v → Calls Try.prog 24 #[tenV (D 31).T A,tenV (D 31).T C] v fun e w' => e = .returned (.bool true) ∧ Below v.heap.size v w'):=hide (fun v hv => (rten_same7 _ _ A C v (o31.inn.below hv) (o31z.inn.below hv)).mono fun e w' ⟨h1,h2⟩ => ⟨by rw [h1]; simp,h2⟩)
 clear o31 o31z
 unfold tenV tenCells at C31
 generalize (D 0).x = x0
 generalize (D 1).xs = x1 at C1 ⊢
 generalize (D 2).y = x2
 generalize (D 3).y = x3
 generalize (D 4).y = x4
 generalize (D 5).y = x5
 generalize (D 6).y = x6
 generalize (D 7).xs = x7 at C7 ⊢
 generalize (D 8).y = x8
 generalize (D 9).x = x9
 generalize (D 10).x = x10
 generalize (D 11).x = x11
 generalize (D 12).y = x12
 generalize (D 13).y = x13
 generalize (D 14).y = x14
 generalize (D 15).x = x15
 generalize (D 16).x = x16
 generalize (D 17).y = x17
 generalize (D 18).y = x18
 generalize (D 19).x = x19
 generalize (D 20).xs = x20 at C20 ⊢
 generalize (D 21).xs = x21 at C21 ⊢
 generalize (D 22).xs = x22 at C22 ⊢
 generalize (D 23).xs = x23 at C23 ⊢
 generalize (D 24).x = x24
 generalize (D 25).y = x25
 generalize (D 26).y = x26
 generalize (D 27).x = x27
 generalize (D 28).x = x28
 generalize (D 29).x = x29
 generalize (D 30).y = x30
 generalize (D 31).T = TT at C31 ⊢
 obtain ⟨ty,ds,fs,is,bs⟩:=TT
 obtain ⟨pd,cd,pf,cf,pi,ci,pb,cb⟩:=A
 obtain ⟨pdz,cdz,pfz,cfz,piz,ciz,pbz,cbz⟩:=C
 simp only at C31 ⊢
 have t0:(x0 == x0) = true:=by simp
 have t2:(x2 == x2) = true:=by simp
 have t3:(x3 == x3) = true:=by simp
 have t4:(x4 == x4) = true:=by simp
 have t5:(x5 == x5) = true:=by simp
 have t6:(x6 == x6) = true:=by simp
 have t8:(x8 == x8) = true:=by simp
 have t9:(x9 == x9) = true:=by simp
 have t10:(x10 == x10) = true:=by simp
 have t11:(x11 == x11) = true:=by simp
 have t12:(x12 == x12) = true:=by simp
 have t13:(x13 == x13) = true:=by simp
 have t14:(x14 == x14) = true:=by simp
 have t15:(x15 == x15) = true:=by simp
 have t16:(x16 == x16) = true:=by simp
 have t17:(x17 == x17) = true:=by simp
 have t18:(x18 == x18) = true:=by simp
 have t19:(x19 == x19) = true:=by simp
 have t24:(x24 == x24) = true:=by simp
 have t25:(x25 == x25) = true:=by simp
 have t26:(x26 == x26) = true:=by simp
 have t27:(x27 == x27) = true:=by simp
 have t28:(x28 == x28) = true:=by simp
 have t29:(x29 == x29) = true:=by simp
 have t30:(x30 == x30) = true:=by simp
 have tty:(ty == ty) = true:=by simp
 obtain ⟨W,hW⟩:∃ W,W = (w.alloc (.cells #[.int .i64 x0,.slice p1 x1.length c1,.bool x2,.bool x3,.bool x4,.bool x5,.bool x6,.slice p7 x7.length c7,.bool x8,.int .u32 x9,.int .u32 x10,.int .u32 x11,.bool x12,.bool x13,.bool x14,.int .i64 x15,.int .i64 x16,.bool x17,.bool x18,.int .i64 x19,.slice p20 x20.length c20,.slice p21 x21.length c21,.slice p22 x22.length c22,.slice p23 x23.length c23,.int .i64 x24,.bool x25,.bool x26,.int .i64 x27,.int .i64 x28,.int .i64 x29,.bool x30,.int .i64 ty,.slice pd ds.length cd,.slice pf fs.length cf,.slice pi is.length ci,.slice pb bs.length cb] 35)).alloc (.cells #[.int .i64 x0,.slice p1z x1.length c1z,.bool x2,.bool x3,.bool x4,.bool x5,.bool x6,.slice p7z x7.length c7z,.bool x8,.int .u32 x9,.int .u32 x10,.int .u32 x11,.bool x12,.bool x13,.bool x14,.int .i64 x15,.int .i64 x16,.bool x17,.bool x18,.int .i64 x19,.slice p20z x20.length c20z,.slice p21z x21.length c21z,.slice p22z x22.length c22z,.slice p23z x23.length c23z,.int .i64 x24,.bool x25,.bool x26,.int .i64 x27,.int .i64 x28,.int .i64 x29,.bool x30,.int .i64 ty,.slice pdz ds.length cdz,.slice pfz fs.length cfz,.slice piz is.length ciz,.slice pbz bs.length cbz] 35):=⟨_,rfl⟩
 have B0:Hid (Below w.heap.size w W):=hide (by rw [hW]; exact al27 _ _ _)
 have X0:Hid (Box W w.heap.size #[.int .i64 x0,.slice p1 x1.length c1,.bool x2,.bool x3,.bool x4,.bool x5,.bool x6,.slice p7 x7.length c7,.bool x8,.int .u32 x9,.int .u32 x10,.int .u32 x11,.bool x12,.bool x13,.bool x14,.int .i64 x15,.int .i64 x16,.bool x17,.bool x18,.int .i64 x19,.slice p20 x20.length c20,.slice p21 x21.length c21,.slice p22 x22.length c22,.slice p23 x23.length c23,.int .i64 x24,.bool x25,.bool x26,.int .i64 x27,.int .i64 x28,.int .i64 x29,.bool x30,.int .i64 ty,.slice pd ds.length cd,.slice pf fs.length cf,.slice pi is.length ci,.slice pb bs.length cb] 35):=hide (by rw [hW]; exact Box.alloc (Box.new _ _ _) _)
 have Y0:Hid (Box W (w.heap.size + 1) #[.int .i64 x0,.slice p1z x1.length c1z,.bool x2,.bool x3,.bool x4,.bool x5,.bool x6,.slice p7z x7.length c7z,.bool x8,.int .u32 x9,.int .u32 x10,.int .u32 x11,.bool x12,.bool x13,.bool x14,.int .i64 x15,.int .i64 x16,.bool x17,.bool x18,.int .i64 x19,.slice p20z x20.length c20z,.slice p21z x21.length c21z,.slice p22z x22.length c22z,.slice p23z x23.length c23z,.int .i64 x24,.bool x25,.bool x26,.int .i64 x27,.int .i64 x28,.int .i64 x29,.bool x30,.int .i64 ty,.slice pdz ds.length cdz,.slice pfz fs.length cfz,.slice piz is.length ciz,.slice pbz bs.length cbz] 35):=hide (by rw [hW]; have h:=Box.new (w.alloc (.cells #[.int .i64 x0,.slice p1 x1.length c1,.bool x2,.bool x3,.bool x4,.bool x5,.bool x6,.slice p7 x7.length c7,.bool x8,.int .u32 x9,.int .u32 x10,.int .u32 x11,.bool x12,.bool x13,.bool x14,.int .i64 x15,.int .i64 x16,.bool x17,.bool x18,.int .i64 x19,.slice p20 x20.length c20,.slice p21 x21.length c21,.slice p22 x22.length c22,.slice p23 x23.length c23,.int .i64 x24,.bool x25,.bool x26,.int .i64 x27,.int .i64 x28,.int .i64 x29,.bool x30,.int .i64 ty,.slice pd ds.length cd,.slice pf fs.length cf,.slice pi is.length ci,.slice pb bs.length cb] 35)) #[.int .i64 x0,.slice p1z x1.length c1z,.bool x2,.bool x3,.bool x4,.bool x5,.bool x6,.slice p7z x7.length c7z,.bool x8,.int .u32 x9,.int .u32 x10,.int .u32 x11,.bool x12,.bool x13,.bool x14,.int .i64 x15,.int .i64 x16,.bool x17,.bool x18,.int .i64 x19,.slice p20z x20.length c20z,.slice p21z x21.length c21z,.slice p22z x22.length c22z,.slice p23z x23.length c23z,.int .i64 x24,.bool x25,.bool x26,.int .i64 x27,.int .i64 x28,.int .i64 x29,.bool x30,.int .i64 ty,.slice pdz ds.length cdz,.slice pfz fs.length cfz,.slice piz is.length ciz,.slice pbz bs.length cbz] 35; simp only [World.size_alloc] at h; exact h)
 have x0':=(uh X0).cell
 have y0':=(uh Y0).cell
 go_enter Try.func7,Try.ntmps7
 go_wp2_with fail
 rw [← hW]
 clear hW
 refine (uh C1 _ (uh B0)).mono ?_
 rintro e w1 ⟨rfl,hb⟩
 have B1:=hide (bl_tr (uh B0) hb)
 have X1:=hide ((uh X0).below hb)
 have Y1:=hide ((uh Y0).below hb)
 clear hb x0' y0' B0 X0 Y0 C1
 have x0':=(uh X1).cell
 have y0':=(uh Y1).cell
 go_wp2_with fail
 refine (uh C7 _ (uh B1)).mono ?_
 rintro e w2 ⟨rfl,hb⟩
 have B2:=hide (bl_tr (uh B1) hb)
 have X2:=hide ((uh X1).below hb)
 have Y2:=hide ((uh Y1).below hb)
 clear hb x0' y0' B1 X1 Y1 C7
 have x0':=(uh X2).cell
 have y0':=(uh Y2).cell
 go_wp2_with fail
 refine (uh C20 _ (uh B2)).mono ?_
 rintro e w3 ⟨rfl,hb⟩
 have B3:=hide (bl_tr (uh B2) hb)
 have X3:=hide ((uh X2).below hb)
 have Y3:=hide ((uh Y2).below hb)
 clear hb x0' y0' B2 X2 Y2 C20
 have x0':=(uh X3).cell
 have y0':=(uh Y3).cell
 go_wp2_with fail
 refine (uh C21 _ (uh B3)).mono ?_
 rintro e w4 ⟨rfl,hb⟩
 have B4:=hide (bl_tr (uh B3) hb)
 have X4:=hide ((uh X3).below hb)
 have Y4:=hide ((uh Y3).below hb)
 clear hb x0' y0' B3 X3 Y3 C21
 have x0':=(uh X4).cell
 have y0':=(uh Y4).cell
 go_wp2_with fail
 refine (uh C22 _ (uh B4)).mono ?_
 rintro e w5 ⟨rfl,hb⟩
 have B5:=hide (bl_tr (uh B4) hb)
 have X5:=hide ((uh X4).below hb)
 have Y5:=hide ((uh Y4).below hb)
 clear hb x0' y0' B4 X4 Y4 C22
 have x0':=(uh X5).cell
 have y0':=(uh Y5).cell
 go_wp2_with fail
 refine (uh C23 _ (uh B5)).mono ?_
 rintro e w6 ⟨rfl,hb⟩
 have B6:=hide (bl_tr (uh B5) hb)
 have X6:=hide ((uh X5).below hb)
 have Y6:=hide ((uh Y5).below hb)
 clear hb x0' y0' B5 X5 Y5 C23
 have x0':=(uh X6).cell
 have y0':=(uh Y6).cell
 go_wp2_with fail
 refine (uh C31 _ (uh B6)).mono ?_
 rintro e w9 ⟨rfl,hb⟩
 have B9:=hide (bl_tr (uh B6) hb)
 clear hb
 go_wp2_with fail
 go_ret
 exact ⟨rfl,uh B9⟩
end Go.Proofs.Ytnmciappielkcaa
