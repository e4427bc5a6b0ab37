import Derived.Test.YtkpmfkkfcikfhaaV25
set_option maxRecDepth 100000
set_option maxHeartbeats 8000000
namespace Go.Proofs.Ytkpmfkkfcikfhaa
open Go.RowKit
set_option linter.unusedVariables false
theorem rsame7_true (p q:Option Addr) (cap cap':Nat) (xs ys:List Int) (w:World) (h1:Ints .i64 w p cap xs) (h2:Ints .i64 w q cap' ys) (he:xs = ys) :
  Calls Try.prog 33 #[.slice p xs.length cap,.slice q ys.length cap'] w fun e w' => e = .returned (.bool true) ∧ Below w.heap.size w w':=by
 refine (rsame7_any p q cap cap' xs ys w h1 h2).mono ?_
 rintro e w1 ⟨rfl,hb⟩
 exact ⟨ret_bool (by simp [he]),hb⟩
theorem rsame7_false (p q:Option Addr) (cap cap':Nat) (xs ys:List Int) (w:World) (h1:Ints .i64 w p cap xs) (h2:Ints .i64 w q cap' ys) (he:¬ xs = ys) :
  Calls Try.prog 33 #[.slice p xs.length cap,.slice q ys.length cap'] w fun e w' => e = .returned (.bool false) ∧ Below w.heap.size w w':=by
 refine (rsame7_any p q cap cap' xs ys w h1 h2).mono ?_
 rintro e w1 ⟨rfl,hb⟩
 exact ⟨ret_bool (by simp [he]),hb⟩
theorem al27 (w:World) (a b:Obj):Below w.heap.size w ((w.alloc a).alloc b):=((Below.refl _ _).alloc (Nat.le_refl _) _).alloc (by simp) _
theorem take_getD7 {α:Type} [Inhabited α] (xs:List α) (n:Nat) (h:n < xs.length):xs.take (n + 1) = xs.take n ++ [xs.getD n default]:=by
 rw [List.take_add_one]; simp [List.getElem?_eq_getElem h]
theorem take_eq7 {α:Type} [Inhabited α] {xs ys:List α} {n:Nat} (h1:n < xs.length) (h2:n < ys.length) (h:xs.take n = ys.take n) (e:xs.getD n default = ys.getD n default):xs.take (n + 1) = ys.take (n + 1):=by
 rw [take_getD7 xs n h1,take_getD7 ys n h2,h,e]
theorem take_ne7 {α:Type} [Inhabited α] {xs ys:List α} {n:Nat} (e:¬ xs.getD n default = ys.getD n default):¬ xs = ys:=fun h => e (by rw [h])
theorem take_all7 {α:Type} {xs ys:List α} {n:Nat} (hl:xs.length = ys.length) (hn:n = xs.length) (h:xs.take n = ys.take n):xs = ys:=by
 rw [hn,List.take_length,hl,List.take_length] at h; exact h
theorem rten_same7 (T U:Ten) (A C:TA) (w:World) (h:TenIn w T A) (k:TenIn w U C) :
  Calls Try.prog 34 #[tenV T A,tenV U C] w fun e w' => e = .returned (.bool (decide (T = U))) ∧ Below w.heap.size w w':=by
 obtain ⟨ty,ds,fs,is,bs⟩:=T
 obtain ⟨pd,cd,pf,cf,pi,ci,pb,cb⟩:=A
 obtain ⟨a0,a1,a2,a3,a4⟩:=h
 obtain ⟨ty',ds',fs',is',bs'⟩:=U
 obtain ⟨pd',cd',pf',cf',pi',ci',pb',cb'⟩:=C
 obtain ⟨e0,e1,e2,e3,e4⟩:=k
 simp only at a0 a1 a2 a3 a4 e0 e1 e2 e3 e4
 unfold tenV tenCells
 simp only
 have A1:=hide a1
 have A2:=hide a2
 have A3:=hide a3
 have A4:=hide a4
 have E1:=hide e1
 have E2:=hide e2
 have E3:=hide e3
 have E4:=hide e4
 have nf:=a2.len
 have ni:=a3.len
 have nb:=a4.len
 have nf':=e2.len
 have ni':=e3.len
 have nb':=e4.len
 clear a0 a1 a2 a3 a4 e0 e1 e2 e3 e4
 have no:∀ b:Bool,b = false → ¬ (ty,ds,fs,is,bs) = (ty',ds',fs',is',bs') → Ending.returned (.bool b) = .returned (.bool (decide ((ty,ds,fs,is,bs) = (ty',ds',fs',is',bs')))):=fun b h1 h2 => ret_bool (by rw [h1]; exact (decide_eq_false h2).symm)
 have NO:=hide no
 clear no
 by_cases ht:ty = ty'
 ·have tt:(ty != ty') = false:=bneFp ht
  by_cases hd:ds = ds'
  ·have SM:=hide (fun w h1 h2 => rsame7_true pd pd' cd cd' ds ds' w h1 h2 hd)
   have HD:=hide hd
   have HT:=hide ht
   clear ht hd
   by_cases hl0:fs.length = fs'.length
   ·have tl0:((fs.length:Int) != (fs'.length:Int)) = false:=bneFp (by omega)
    have HL0:=hide hl0
    clear hl0
    by_cases hl1:is.length = is'.length
    ·have tl1:((is.length:Int) != (is'.length:Int)) = false:=bneFp (by omega)
     have HL1:=hide hl1
     clear hl1
     by_cases hl2:bs.length = bs'.length
     ·have tl2:((bs.length:Int) != (bs'.length:Int)) = false:=bneFp (by omega)
      have HL2:=hide hl2
      clear hl2
      go_enter Try.func34,Try.ntmps34
      go_wp2_with fail
      refine (uh SM _ ((uh A1).below (al27 _ _ _)) ((uh E1).below (al27 _ _ _))).mono ?_
      rintro e w1 ⟨rfl,hb⟩
      have X1:=hide (Box.below (Box.alloc (Box.new w #[.int .i64 ty,.slice pd ds.length cd,.slice pf fs.length cf,.slice pi is.length ci,.slice pb bs.length cb] 43) _) hb)
      have X2:=hide (Box.below (Box.new (w.alloc _) #[.int .i64 ty',.slice pd' ds'.length cd',.slice pf' fs'.length cf',.slice pi' is'.length ci',.slice pb' bs'.length cb'] 43) hb)
      simp only [alloc_size6] at X2
      have B:=hide (bl_tr (al27 _ _ _) hb)
      have x1:=(uh X1).cell
      have x2:=(uh X2).cell
      clear hb X1 X2
      go_wp2_with fail
      clear tl0 tl1 tl2 tt
      go_loopw [5] (fun iv wr => ∃ n:Nat,iv = .int .i64 n ∧ n ≤ fs.length ∧ Hid (fs.take n = fs'.take n) ∧ ∃ m,wr = w1.drewN m) (fun iv _ => fs.length - (intOf iv).toNat)
      case atStart => exact ⟨0,rfl,by omega,hide (by simp),0,rfl⟩
      case round =>
       obtain ⟨n0,rfl,hn0,HT0,m0,rfl⟩:=hrel
       by_cases hlt:n0 < fs.length
       ·have hlt2:n0 < fs'.length:=by rw [← uh HL0]; exact hlt
        obtain ⟨b,o,rfl,hb,hc⟩:=((uh A2).below (uh B)).lies (by omega)
        obtain ⟨b',o',rfl,hb',hc'⟩:=((uh E2).below (uh B)).lies (by omega)
        have hi:(n0:Int) < (fs.length:Int):=by omega
        have hi2:(n0:Int) < (fs'.length:Int):=by omega
        have k1:=hc n0 hlt
        have k2:=hc' n0 hlt2
        have TE:=hide (fun e => take_eq7 hlt hlt2 (uh HT0) e)
        have TN:=hide (take_ne7 (xs:=fs) (ys:=fs') (n:=n0))
        have e0:∀ (l:List Int),l.getD n0 default = l.getD n0 0:=fun _ => rfl
        simp only [e0] at TE TN k1 k2
        clear hc hc' hlt2 HT0 e0
        generalize fs.getD n0 0 = x at k1 TE TN
        generalize fs'.getD n0 0 = y at k2 TE TN
        by_cases hxy:x = y
        ·have HT2:=hide (uh TE hxy)
         subst hxy
         clear TE TN
         go_wp2_with fail
         go_quiet (fail)
         go_wp2_with fail
         go_roundw
         case rel => exact ⟨n0 + 1,by go_num,by omega,HT2,_,rfl⟩
         case measure => simp [intOf]; omega
        ·have hne:(x == y) = false:=by simp [hxy]
         have HNE:Hid (¬ (ty,ds,fs,is,bs) = (ty',ds',fs',is',bs')):=hide (fun h => uh TN hxy (by simp only [Prod.mk.injEq] at h; exact h.2.2.1))
         clear TE TN hxy
         go_wp2_with fail
         go_quiet (fail)
         go_wp2_with fail
         go_ret
         exact ⟨uh NO _ rfl (uh HNE),bw_drew (bw_drew (uh B) _) _⟩
       ·have hi:¬ (n0:Int) < (fs.length:Int):=by omega
        have Q0:=hide (take_all7 (uh HL0) (show n0 = fs.length by omega) (uh HT0))
        clear HT0
        go_wp2_with fail
        go_loopw [6] (fun iv wr => ∃ n:Nat,iv = .int .i64 n ∧ n ≤ is.length ∧ Hid (is.take n = is'.take n) ∧ ∃ m,wr = w1.drewN m) (fun iv _ => is.length - (intOf iv).toNat)
        case atStart => exact ⟨0,rfl,by omega,hide (by simp),m0,rfl⟩
        case round =>
         obtain ⟨n1,rfl,hn1,HT1,m1,rfl⟩:=hrel
         by_cases hlt:n1 < is.length
         ·have hlt2:n1 < is'.length:=by rw [← uh HL1]; exact hlt
          obtain ⟨b,o,rfl,hb,hc⟩:=((uh A3).below (uh B)).lies (by omega)
          obtain ⟨b',o',rfl,hb',hc'⟩:=((uh E3).below (uh B)).lies (by omega)
          have hi:(n1:Int) < (is.length:Int):=by omega
          have hi2:(n1:Int) < (is'.length:Int):=by omega
          have k1:=hc n1 hlt
          have k2:=hc' n1 hlt2
          have TE:=hide (fun e => take_eq7 hlt hlt2 (uh HT1) e)
          have TN:=hide (take_ne7 (xs:=is) (ys:=is') (n:=n1))
          have e0:∀ (l:List Int),l.getD n1 default = l.getD n1 0:=fun _ => rfl
          simp only [e0] at TE TN k1 k2
          clear hc hc' hlt2 HT1 e0
          generalize is.getD n1 0 = x at k1 TE TN
          generalize is'.getD n1 0 = y at k2 TE TN
          by_cases hxy:x = y
          ·have HT2:=hide (uh TE hxy)
           subst hxy
           clear TE TN
           go_wp2_with fail
           go_quiet (fail)
           go_wp2_with fail
           go_roundw
           case rel => exact ⟨n1 + 1,by go_num,by omega,HT2,_,rfl⟩
           case measure => simp [intOf]; omega
          ·have hne:(x == y) = false:=by simp [hxy]
           have HNE:Hid (¬ (ty,ds,fs,is,bs) = (ty',ds',fs',is',bs')):=hide (fun h => uh TN hxy (by simp only [Prod.mk.injEq] at h; exact h.2.2.2.1))
           clear TE TN hxy
           go_wp2_with fail
           go_quiet (fail)
           go_wp2_with fail
           go_ret
           exact ⟨uh NO _ rfl (uh HNE),bw_drew (bw_drew (uh B) _) _⟩
         ·have hi:¬ (n1:Int) < (is.length:Int):=by omega
          have Q1:=hide (take_all7 (uh HL1) (show n1 = is.length by omega) (uh HT1))
          clear HT1
          go_wp2_with fail
          go_loopw [7] (fun iv wr => ∃ n:Nat,iv = .int .i64 n ∧ n ≤ bs.length ∧ Hid (bs.take n = bs'.take n) ∧ ∃ m,wr = w1.drewN m) (fun iv _ => bs.length - (intOf iv).toNat)
          case atStart => exact ⟨0,rfl,by omega,hide (by simp),m1,rfl⟩
          case round =>
           obtain ⟨n2,rfl,hn2,HT2,m2,rfl⟩:=hrel
           by_cases hlt:n2 < bs.length
           ·have hlt2:n2 < bs'.length:=by rw [← uh HL2]; exact hlt
            obtain ⟨b,o,rfl,hb,hc⟩:=((uh A4).below (uh B)).lies (by omega)
            obtain ⟨b',o',rfl,hb',hc'⟩:=((uh E4).below (uh B)).lies (by omega)
            have hi:(n2:Int) < (bs.length:Int):=by omega
            have hi2:(n2:Int) < (bs'.length:Int):=by omega
            have k1:=hc n2 hlt
            have k2:=hc' n2 hlt2
            have TE:=hide (fun e => take_eq7 hlt hlt2 (uh HT2) e)
            have TN:=hide (take_ne7 (xs:=bs) (ys:=bs') (n:=n2))
            have e0:∀ (l:List Bool),l.getD n2 default = l.getD n2 false:=fun _ => rfl
            simp only [e0] at TE TN k1 k2
            clear hc hc' hlt2 HT2 e0
            generalize bs.getD n2 false = x at k1 TE TN
            generalize bs'.getD n2 false = y at k2 TE TN
            by_cases hxy:x = y
            ·have HT2:=hide (uh TE hxy)
             subst hxy
             clear TE TN
             go_wp2_with fail
             go_quiet (fail)
             go_wp2_with fail
             go_roundw
             case rel => exact ⟨n2 + 1,by go_num,by omega,HT2,_,rfl⟩
             case measure => simp [intOf]; omega
            ·have hne:(x == y) = false:=by simp [hxy]
             have HNE:Hid (¬ (ty,ds,fs,is,bs) = (ty',ds',fs',is',bs')):=hide (fun h => uh TN hxy (by simp only [Prod.mk.injEq] at h; exact h.2.2.2.2))
             clear TE TN hxy
             go_wp2_with fail
             go_quiet (fail)
             go_wp2_with fail
             go_ret
             exact ⟨uh NO _ rfl (uh HNE),bw_drew (bw_drew (uh B) _) _⟩
           ·have hi:¬ (n2:Int) < (bs.length:Int):=by omega
            have Q2:=hide (take_all7 (uh HL2) (show n2 = bs.length by omega) (uh HT2))
            clear HT2
            go_wp2_with fail
            go_ret
            exact ⟨ret_bool (by simp [uh HT,uh HD,uh Q0,uh Q1,uh Q2]),bw_drew (uh B) _⟩
     ·have tl2:((bs.length:Int) != (bs'.length:Int)) = true:=bneTp (by omega)
      have HNE:Hid (¬ (ty,ds,fs,is,bs) = (ty',ds',fs',is',bs')):=hide (fun h => hl2 (by simp only [Prod.mk.injEq] at h; rw [h.2.2.2.2]))
      clear hl2
      go_enter Try.func34,Try.ntmps34
      go_wp2_with fail
      refine (uh SM _ ((uh A1).below (al27 _ _ _)) ((uh E1).below (al27 _ _ _))).mono ?_
      rintro e w1 ⟨rfl,hb⟩
      have X1:=hide (Box.below (Box.alloc (Box.new w #[.int .i64 ty,.slice pd ds.length cd,.slice pf fs.length cf,.slice pi is.length ci,.slice pb bs.length cb] 43) _) hb)
      have X2:=hide (Box.below (Box.new (w.alloc _) #[.int .i64 ty',.slice pd' ds'.length cd',.slice pf' fs'.length cf',.slice pi' is'.length ci',.slice pb' bs'.length cb'] 43) hb)
      simp only [alloc_size6] at X2
      have B:=hide (bl_tr (al27 _ _ _) hb)
      have x1:=(uh X1).cell
      have x2:=(uh X2).cell
      clear hb X1 X2
      go_wp2_with fail
      go_ret
      exact ⟨uh NO _ rfl (uh HNE),uh B⟩
    ·have tl1:((is.length:Int) != (is'.length:Int)) = true:=bneTp (by omega)
     have HNE:Hid (¬ (ty,ds,fs,is,bs) = (ty',ds',fs',is',bs')):=hide (fun h => hl1 (by simp only [Prod.mk.injEq] at h; rw [h.2.2.2.1]))
     clear hl1
     go_enter Try.func34,Try.ntmps34
     go_wp2_with fail
     refine (uh SM _ ((uh A1).below (al27 _ _ _)) ((uh E1).below (al27 _ _ _))).mono ?_
     rintro e w1 ⟨rfl,hb⟩
     have X1:=hide (Box.below (Box.alloc (Box.new w #[.int .i64 ty,.slice pd ds.length cd,.slice pf fs.length cf,.slice pi is.length ci,.slice pb bs.length cb] 43) _) hb)
     have X2:=hide (Box.below (Box.new (w.alloc _) #[.int .i64 ty',.slice pd' ds'.length cd',.slice pf' fs'.length cf',.slice pi' is'.length ci',.slice pb' bs'.length cb'] 43) hb)
     simp only [alloc_size6] at X2
     have B:=hide (bl_tr (al27 _ _ _) hb)
     have x1:=(uh X1).cell
     have x2:=(uh X2).cell
     clear hb X1 X2
     go_wp2_with fail
     go_ret
     exact ⟨uh NO _ rfl (uh HNE),uh B⟩
   ·have tl0:((fs.length:Int) != (fs'.length:Int)) = true:=bneTp (by omega)
    have HNE:Hid (¬ (ty,ds,fs,is,bs) = (ty',ds',fs',is',bs')):=hide (fun h => hl0 (by simp only [Prod.mk.injEq] at h; rw [h.2.2.1]))
    clear hl0
    go_enter Try.func34,Try.ntmps34
    go_wp2_with fail
    refine (uh SM _ ((uh A1).below (al27 _ _ _)) ((uh E1).below (al27 _ _ _))).mono ?_
    rintro e w1 ⟨rfl,hb⟩
    have X1:=hide (Box.below (Box.alloc (Box.new w #[.int .i64 ty,.slice pd ds.length cd,.slice pf fs.length cf,.slice pi is.length ci,.slice pb bs.length cb] 43) _) hb)
    have X2:=hide (Box.below (Box.new (w.alloc _) #[.int .i64 ty',.slice pd' ds'.length cd',.slice pf' fs'.length cf',.slice pi' is'.length ci',.slice pb' bs'.length cb'] 43) hb)
    simp only [alloc_size6] at X2
    have B:=hide (bl_tr (al27 _ _ _) hb)
    have x1:=(uh X1).cell
    have x2:=(uh X2).cell
    clear hb X1 X2
    go_wp2_with fail
    go_ret
    exact ⟨uh NO _ rfl (uh HNE),uh B⟩
  ·have SM:=hide (fun w h1 h2 => rsame7_false pd pd' cd cd' ds ds' w h1 h2 hd)
   have HNE:Hid (¬ (ty,ds,fs,is,bs) = (ty',ds',fs',is',bs')):=hide (fun h => hd (by simp only [Prod.mk.injEq] at h; exact h.2.1))
   clear hd ht
   go_enter Try.func34,Try.ntmps34
   go_wp2_with fail
   refine (uh SM _ ((uh A1).below (al27 _ _ _)) ((uh E1).below (al27 _ _ _))).mono ?_
   rintro e w1 ⟨rfl,hb⟩
   have X1:=hide (Box.below (Box.alloc (Box.new w #[.int .i64 ty,.slice pd ds.length cd,.slice pf fs.length cf,.slice pi is.length ci,.slice pb bs.length cb] 43) _) hb)
   have X2:=hide (Box.below (Box.new (w.alloc _) #[.int .i64 ty',.slice pd' ds'.length cd',.slice pf' fs'.length cf',.slice pi' is'.length ci',.slice pb' bs'.length cb'] 43) hb)
   simp only [alloc_size6] at X2
   have B:=hide (bl_tr (al27 _ _ _) hb)
   have x1:=(uh X1).cell
   have x2:=(uh X2).cell
   clear hb X1 X2
   go_wp2_with fail
   go_ret
   exact ⟨uh NO _ rfl (uh HNE),uh B⟩
 ·have tt:(ty != ty') = true:=bneTp ht
  have HNE:Hid (¬ (ty,ds,fs,is,bs) = (ty',ds',fs',is',bs')):=hide (fun h => ht (by simp only [Prod.mk.injEq] at h; exact h.1))
  clear ht
  go_enter Try.func34,Try.ntmps34
  go_wp2_with fail
  go_ret
  exact ⟨uh NO _ rfl (uh HNE),al27 _ _ _⟩
end Go.Proofs.Ytkpmfkkfcikfhaa
