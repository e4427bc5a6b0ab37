import Derived.Test.YtaikppgoahdjbabGreatV06
set_option maxRecDepth 100000
set_option maxHeartbeats 8000000
namespace Go.Proofs.YtaikppgoahdjbabGreat
open Go.RowKit
set_option linter.unusedVariables false
theorem oneL_at {b:List Int} {n:Nat} {D:Option (Fld × Nat)} (h:oneL (b.drop n) = D) (hn:n ≤ b.length):D = match rdG 10 (b.drop n) with
  | none => none
  | some t =>
    if t.1 / 8 < 1 ∨ 536870911 < t.1 / 8 then none
    else if t.1 % 8 = 0 then (rdG 10 (b.drop (n + t.2))).map fun y => ((t.1 / 8,0,y.1,[]),t.2 + y.2)
    else if t.1 % 8 = 1 then (if b.length < n + t.2 + 8 then none else some ((t.1 / 8,1,leV ((b.drop (n + t.2)).take 8),[]),t.2 + 8))
    else if t.1 % 8 = 5 then (if b.length < n + t.2 + 4 then none else some ((t.1 / 8,5,leV ((b.drop (n + t.2)).take 4),[]),t.2 + 4))
    else if t.1 % 8 = 2 then (match rdG 10 (b.drop (n + t.2)) with
     | none => none
     | some y => if (b.length:Int) < (n + t.2 + y.2:Nat) + y.1 then none else some ((t.1 / 8,2,0,(b.drop (n + t.2 + y.2)).take y.1.toNat),t.2 + y.2 + y.1.toNat))
    else none:=by
 rw [← h]
 unfold oneL
 cases hg:rdG 10 (b.drop n) with
 | none => rfl
 | some t =>
   obtain ⟨tag,p⟩:=t
   obtain ⟨_,_,c3⟩:=rdG_count 10 _ tag p hg
   simp at c3
   simp only [List.drop_drop,List.length_drop]
   have e8:(b.length - n < p + 8) = (b.length < n + p + 8):=by simp; omega
   have e4:(b.length - n < p + 4) = (b.length < n + p + 4):=by simp; omega
   have e2:∀ y:Int × Nat,(((b.length - n:Nat):Int) < (p + y.2:Nat) + y.1) = ((b.length:Int) < (n + p + y.2:Nat) + y.1):=fun y => by simp; omega
   simp only [e8,e4,e2,← Nat.add_assoc]
   cases rdG 10 (b.drop (n + p)) <;> rfl
theorem rone_any (p:Option Addr) (c:Nat) (b:List Int) (n:Nat) (w:World) (h:Ints .u8 w p c b) (hn:n ≤ b.length) (hs:b.length ≤ 4194304) :
  Calls Tryz.prog 23 #[.slice p b.length c,.int .i64 n] w fun e w' => (∃ a nx,e = .returned (.tuple #[faV a,.int .i64 nx,.bool (oneL (b.drop n)).isSome]) ∧ Hid (∀ y,oneL (b.drop n) = some y → a.f = y.1 ∧ nx = ((n + y.2:Nat):Int) ∧ FaIn w' a ∧ Fresh w.heap.size w' a.q a.d.length ∧ DTy 5 w' a)) ∧ Below w.heap.size w w':=by
 obtain ⟨i1,hi1,y1,z1,b1⟩:=info_parts Tryz.infoU8
 have A1:=hide h
 have hB:=hide (wf_isB h.2.2.1)
 have RV:=hide (fun (m:Nat) v (hv:Below w.heap.size w v) => rrdv_any p c b (m:Int) v (h.below hv) (by omega))
 obtain ⟨D,hD⟩:∃ D,oneL (b.drop n) = D:=⟨_,rfl⟩
 have HD:=hide (oneL_at hD hn)
 rw [hD]
 clear hD h
 have RV1:=hide (uh RV n)
 simp only [rdV_in hn] at RV1
 cases hg:rdG 10 (b.drop n) with
 | none =>
   rw [hg] at RV1
   simp only at RV1
   have HN:Hid (D = none):=hide (by rw [uh HD,hg])
   clear HD hg RV
   go_enter Tryz.func23,Tryz.ntmps23
   go_wp2_with fail
   refine (uh RV1 _ (by first | exact al1p _ _ | exact al2p _ _ _)).mono ?_
   rintro e v ⟨rfl,hv⟩
   replace hv:=hv.symm
   subst hv
   go_wp2_with fail
   refine bodyPost_ret (v:=.tuple #[faV noFA,.int .i64 0,.bool D.isSome]) (by rw [uh HN]; simp [results,Tryz.results23,go_sem,faV,noFA]) rfl ⟨⟨noFA,0,rfl,hide (fun y hy => by rw [uh HN] at hy; cases hy)⟩,by first | exact al1p _ _ | exact al2p _ _ _⟩
 | some t =>
   obtain ⟨tag,k⟩:=t
   rw [hg] at RV1
   simp only at RV1
   obtain ⟨c1,c2,c3⟩:=rdG_count 10 _ tag k hg
   simp at c3
   obtain ⟨t0,t1⟩:=rdG10_range (isB_drop (uh hB) n) hg
   have HD2:=hide (uh HD)
   rw [hg] at HD2
   simp only at HD2
   obtain ⟨m,hm⟩:∃ m,n + k = m:=⟨_,rfl⟩
   have hmb:m ≤ b.length:=by omega
   have HMK:=hide hm
   rw [hm] at RV1 HD2
   clear hm hg HD
   by_cases hbad:tag / 8 < 1 ∨ 536870911 < tag / 8
   ·have HN:Hid (D = none):=hide (by rw [uh HD2,if_pos hbad])
    clear HD2 RV
    by_cases h1:tag / 8 < 1
    ·clear hbad
     go_enter Tryz.func23,Tryz.ntmps23
     go_wp2_with fail
     refine (uh RV1 _ (by first | exact al1p _ _ | exact al2p _ _ _)).mono ?_
     rintro e v ⟨rfl,hv⟩
     replace hv:=hv.symm
     subst hv
     go_wp2_with fail
     refine bodyPost_ret (v:=.tuple #[faV noFA,.int .i64 0,.bool D.isSome]) (by rw [uh HN]; simp [results,Tryz.results23,go_sem,faV,noFA]) rfl ⟨⟨noFA,0,rfl,hide (fun y hy => by rw [uh HN] at hy; cases hy)⟩,by first | exact al1p _ _ | exact al2p _ _ _⟩
    ·have h2:536870911 < tag / 8:=by omega
     clear hbad
     go_enter Tryz.func23,Tryz.ntmps23
     go_wp2_with fail
     refine (uh RV1 _ (by first | exact al1p _ _ | exact al2p _ _ _)).mono ?_
     rintro e v ⟨rfl,hv⟩
     replace hv:=hv.symm
     subst hv
     go_wp2_with fail
     refine bodyPost_ret (v:=.tuple #[faV noFA,.int .i64 0,.bool D.isSome]) (by rw [uh HN]; simp [results,Tryz.results23,go_sem,faV,noFA]) rfl ⟨⟨noFA,0,rfl,hide (fun y hy => by rw [uh HN] at hy; cases hy)⟩,by first | exact al1p _ _ | exact al2p _ _ _⟩
   ·have h1:¬ tag / 8 < 1:=by omega
    have h2:¬ 536870911 < tag / 8:=by omega
    have HD3:=hide (uh HD2)
    rw [if_neg hbad] at HD3
    clear HD2 hbad
    have RV2:=hide (uh RV m)
    simp only [rdV_in hmb] at RV2
    obtain ⟨N,hN⟩:∃ N,tag / 8 = N:=⟨_,rfl⟩
    obtain ⟨W,hW⟩:∃ W,tag % 8 = W:=⟨_,rfl⟩
    have HD4:=hide (uh HD3)
    rw [hN,hW] at HD4
    have n1:1 ≤ N:=by omega
    have n2:N ≤ 536870911:=by omega
    have w1:0 ≤ W:=by omega
    have w2:W < 8:=by omega
    clear HD3 h1 h2
    by_cases hw0:W = 0
    ·have e0:(W == 0) = true:=by simp [hw0]
     have HD5:=hide (uh HD4)
     rw [if_pos hw0] at HD5
     clear HD4
     cases hy:rdG 10 (b.drop m) with
     | none =>
       rw [hy] at RV2
       simp only at RV2
       have HN:Hid (D = none):=hide (by rw [uh HD5,hy]; rfl)
       clear HD5 hy RV hw0
       go_enter Tryz.func23,Tryz.ntmps23
       go_wp2_with fail
       refine (uh RV1 _ (by first | exact al1p _ _ | exact al2p _ _ _)).mono ?_
       rintro e v ⟨rfl,hv⟩
       replace hv:=hv.symm
       subst hv
       go_wp2_with fail
       refine (uh RV2 _ (by first | exact al1p _ _ | exact al2p _ _ _)).mono ?_
       rintro e v ⟨rfl,hv⟩
       replace hv:=hv.symm
       subst hv
       go_wp2_with fail
       refine bodyPost_ret (v:=.tuple #[faV ⟨N,W,0,[],none,0⟩,.int .i64 0,.bool D.isSome]) (by rw [uh HN]; simp [results,Tryz.results23,go_sem,faV]) rfl ⟨⟨⟨N,W,0,[],none,0⟩,0,rfl,hide (fun y hy => by rw [uh HN] at hy; cases hy)⟩,by first | exact al1p _ _ | exact al2p _ _ _⟩
     | some y =>
       obtain ⟨x,q⟩:=y
       rw [hy] at RV2
       simp only at RV2
       obtain ⟨x0,x1⟩:=rdG10_range (isB_drop (uh hB) m) hy
       obtain ⟨q1,q2,q3⟩:=rdG_count 10 _ x q hy
       simp at q3
       have HS:Hid (D = some ((N,W,x,[]),k + q)):=hide (by rw [uh HD5,hy,hw0]; rfl)
       obtain ⟨m2,hm2⟩:∃ m2,m + q = m2:=⟨_,rfl⟩
       have HM2:=hide hm2
       rw [hm2] at RV2
       have hm2b:m2 ≤ b.length:=by omega
       clear HD5 hy RV hw0 hm2
       go_enter Tryz.func23,Tryz.ntmps23
       go_wp2_with fail
       refine (uh RV1 _ (by first | exact al1p _ _ | exact al2p _ _ _)).mono ?_
       rintro e v ⟨rfl,hv⟩
       replace hv:=hv.symm
       subst hv
       go_wp2_with fail
       refine (uh RV2 _ (by first | exact al1p _ _ | exact al2p _ _ _)).mono ?_
       rintro e v ⟨rfl,hv⟩
       replace hv:=hv.symm
       subst hv
       go_wp2_with fail
       refine bodyPost_ret (v:=.tuple #[faV ⟨N,W,x,[],none,0⟩,.int .i64 (m2:Int),.bool D.isSome]) (by rw [uh HS]; simp [results,Tryz.results23,go_sem,faV]) rfl ⟨⟨⟨N,W,x,[],none,0⟩,(m2:Int),rfl,hide (fun y hy => ?_)⟩,by first | exact al1p _ _ | exact al2p _ _ _⟩
       rw [uh HS] at hy
       simp only [Option.some.injEq] at hy
       subst hy
       exact ⟨rfl,by have:=uh HM2; have:=uh HMK; simp only; omega,⟨i64_wf (by simp only; omega) (by simp only; omega),i64_wf (by simp only; omega) (by simp only; omega),u64_wf x0 x1,nil8 _⟩,Fresh.nil _ _,fun hp => by simp at hp⟩
    ·have e0:(W == 0) = false:=by simp [hw0]
     rw [if_neg hw0] at HD4
     by_cases hw1:W = 1
     ·skip
      have e1:(W == 1) = true:=by simp [hw1]
      have HD5:=hide (uh HD4)
      rw [if_pos hw1] at HD5
      clear HD4 RV2 RV
      by_cases hsh:b.length < m + 8
      ·have tsh:(b.length:Int) - (m:Int) < 8:=by omega
       have HN:Hid (D = none):=hide (by rw [uh HD5,if_pos hsh])
       clear HD5 hw0 hw1
       go_enter Tryz.func23,Tryz.ntmps23
       go_wp2_with fail
       refine (uh RV1 _ (by first | exact al1p _ _ | exact al2p _ _ _)).mono ?_
       rintro e v ⟨rfl,hv⟩
       replace hv:=hv.symm
       subst hv
       go_wp2_with fail
       refine bodyPost_ret (v:=.tuple #[faV noFA,.int .i64 0,.bool D.isSome]) (by rw [uh HN]; simp [results,Tryz.results23,go_sem,faV,noFA]) rfl ⟨⟨noFA,0,rfl,hide (fun y hy => by rw [uh HN] at hy; cases hy)⟩,by first | exact al1p _ _ | exact al2p _ _ _⟩
      ·have tsh:¬ (b.length:Int) - (m:Int) < 8:=by omega
       obtain ⟨b3,o3,e3,hb3,_⟩:=(uh A1).lies (show 0 < b.length by omega)
       have hcap:=(uh A1).1
       have LV:=hide (fun v (hv:Below w.heap.size w v) => rlittle_any (some ⟨b3,o3 + m,none⟩) (c - m) ((b.drop m).take 8) v (((uh A1).below hv).cut e3 m 8 (by omega)) (by simp; omega))
       have hlen:((b.drop m).take 8).length = 8:=by simp; omega
       rw [hlen] at LV
       obtain ⟨l0,l1⟩:=leV_range ((b.drop m).take 8) (isB_take (isB_drop (uh hB) _) 8)
       rw [hlen] at l1
       have l2:leV ((b.drop m).take 8) < 18446744073709551616:=by
        have:(256:Int) ^ 8 ≤ 18446744073709551616:=by decide
        omega
       have HS:Hid (D = some ((N,W,leV ((b.drop m).take 8),[]),k + 8)):=hide (by rw [uh HD5,if_neg hsh,hw1])
       generalize leV ((b.drop m).take 8) = x at LV l0 l2 HS
       subst e3
       clear HD5 hw0 hw1 hlen l1 A1
       go_enter Tryz.func23,Tryz.ntmps23
       go_wp2_with fail
       refine (uh RV1 _ (by first | exact al1p _ _ | exact al2p _ _ _)).mono ?_
       rintro e v ⟨rfl,hv⟩
       replace hv:=hv.symm
       subst hv
       go_wp2_with fail
       refine (uh LV _ (by first | exact al1p _ _ | exact al2p _ _ _)).mono ?_
       rintro e v ⟨rfl,hv⟩
       replace hv:=hv.symm
       subst hv
       go_wp2_with fail
       refine bodyPost_ret (v:=.tuple #[faV ⟨N,W,x,[],none,0⟩,.int .i64 ((m:Int) + 8),.bool D.isSome]) (by rw [uh HS]; simp [results,Tryz.results23,go_sem,faV]) rfl ⟨⟨⟨N,W,x,[],none,0⟩,(m:Int) + 8,rfl,hide (fun y hy => ?_)⟩,by first | exact al1p _ _ | exact al2p _ _ _⟩
       rw [uh HS] at hy
       simp only [Option.some.injEq] at hy
       subst hy
       exact ⟨rfl,by have:=uh HMK; simp only; omega,⟨i64_wf (by simp only; omega) (by simp only; omega),i64_wf (by simp only; omega) (by simp only; omega),u64_wf l0 l2,nil8 _⟩,Fresh.nil _ _,fun hp => by simp at hp⟩
     ·have e1:(W == 1) = false:=by simp [hw1]
      rw [if_neg hw1] at HD4
      by_cases hw5:W = 5
      ·skip
       have e5:(W == 5) = true:=by simp [hw5]
       have HD5:=hide (uh HD4)
       rw [if_pos hw5] at HD5
       clear HD4 RV2 RV
       by_cases hsh:b.length < m + 4
       ·have tsh:(b.length:Int) - (m:Int) < 4:=by omega
        have HN:Hid (D = none):=hide (by rw [uh HD5,if_pos hsh])
        clear HD5 hw0 hw5
        go_enter Tryz.func23,Tryz.ntmps23
        go_wp2_with fail
        refine (uh RV1 _ (by first | exact al1p _ _ | exact al2p _ _ _)).mono ?_
        rintro e v ⟨rfl,hv⟩
        replace hv:=hv.symm
        subst hv
        go_wp2_with fail
        refine bodyPost_ret (v:=.tuple #[faV noFA,.int .i64 0,.bool D.isSome]) (by rw [uh HN]; simp [results,Tryz.results23,go_sem,faV,noFA]) rfl ⟨⟨noFA,0,rfl,hide (fun y hy => by rw [uh HN] at hy; cases hy)⟩,by first | exact al1p _ _ | exact al2p _ _ _⟩
       ·have tsh:¬ (b.length:Int) - (m:Int) < 4:=by omega
        obtain ⟨b3,o3,e3,hb3,_⟩:=(uh A1).lies (show 0 < b.length by omega)
        have hcap:=(uh A1).1
        have LV:=hide (fun v (hv:Below w.heap.size w v) => rlittle_any (some ⟨b3,o3 + m,none⟩) (c - m) ((b.drop m).take 4) v (((uh A1).below hv).cut e3 m 4 (by omega)) (by simp; omega))
        have hlen:((b.drop m).take 4).length = 4:=by simp; omega
        rw [hlen] at LV
        obtain ⟨l0,l1⟩:=leV_range ((b.drop m).take 4) (isB_take (isB_drop (uh hB) _) 4)
        rw [hlen] at l1
        have l2:leV ((b.drop m).take 4) < 18446744073709551616:=by
         have:(256:Int) ^ 4 ≤ 18446744073709551616:=by decide
         omega
        have HS:Hid (D = some ((N,W,leV ((b.drop m).take 4),[]),k + 4)):=hide (by rw [uh HD5,if_neg hsh,hw5])
        generalize leV ((b.drop m).take 4) = x at LV l0 l2 HS
        subst e3
        clear HD5 hw0 hw5 hlen l1 A1
        go_enter Tryz.func23,Tryz.ntmps23
        go_wp2_with fail
        refine (uh RV1 _ (by first | exact al1p _ _ | exact al2p _ _ _)).mono ?_
        rintro e v ⟨rfl,hv⟩
        replace hv:=hv.symm
        subst hv
        go_wp2_with fail
        refine (uh LV _ (by first | exact al1p _ _ | exact al2p _ _ _)).mono ?_
        rintro e v ⟨rfl,hv⟩
        replace hv:=hv.symm
        subst hv
        go_wp2_with fail
        refine bodyPost_ret (v:=.tuple #[faV ⟨N,W,x,[],none,0⟩,.int .i64 ((m:Int) + 4),.bool D.isSome]) (by rw [uh HS]; simp [results,Tryz.results23,go_sem,faV]) rfl ⟨⟨⟨N,W,x,[],none,0⟩,(m:Int) + 4,rfl,hide (fun y hy => ?_)⟩,by first | exact al1p _ _ | exact al2p _ _ _⟩
        rw [uh HS] at hy
        simp only [Option.some.injEq] at hy
        subst hy
        exact ⟨rfl,by have:=uh HMK; simp only; omega,⟨i64_wf (by simp only; omega) (by simp only; omega),i64_wf (by simp only; omega) (by simp only; omega),u64_wf l0 l2,nil8 _⟩,Fresh.nil _ _,fun hp => by simp at hp⟩
      ·have e5:(W == 5) = false:=by simp [hw5]
       rw [if_neg hw5] at HD4
       by_cases hw2:W = 2
       ·have e2:(W == 2) = true:=by simp [hw2]
        rw [if_pos hw2] at HD4
        cases hy:rdG 10 (b.drop m) with
        | none =>
          rw [hy] at RV2 HD4
          simp only at RV2 HD4
          have HN:Hid (D = none):=hide (uh HD4)
          clear HD4 hy RV hw0 hw1 hw5 hw2
          go_enter Tryz.func23,Tryz.ntmps23
          go_wp2_with fail
          refine (uh RV1 _ (by first | exact al1p _ _ | exact al2p _ _ _)).mono ?_
          rintro e v ⟨rfl,hv⟩
          replace hv:=hv.symm
          subst hv
          go_wp2_with fail
          refine (uh RV2 _ (by first | exact al1p _ _ | exact al2p _ _ _)).mono ?_
          rintro e v ⟨rfl,hv⟩
          replace hv:=hv.symm
          subst hv
          go_wp2_with fail
          refine bodyPost_ret (v:=.tuple #[faV noFA,.int .i64 0,.bool D.isSome]) (by rw [uh HN]; simp [results,Tryz.results23,go_sem,faV,noFA]) rfl ⟨⟨noFA,0,rfl,hide (fun y hy => by rw [uh HN] at hy; cases hy)⟩,by first | exact al1p _ _ | exact al2p _ _ _⟩
        | some y =>
          obtain ⟨x,q⟩:=y
          rw [hy] at RV2 HD4
          simp only at RV2 HD4
          obtain ⟨x0,x1⟩:=rdG10_range (isB_drop (uh hB) m) hy
          obtain ⟨q1,q2,q3⟩:=rdG_count 10 _ x q hy
          simp at q3
          obtain ⟨m2,hm2⟩:∃ m2,m + q = m2:=⟨_,rfl⟩
          have HM2:=hide hm2
          rw [hm2] at RV2 HD4
          have hm2b:m2 ≤ b.length:=by omega
          by_cases hsh:(b.length:Int) < (m2:Int) + x
          ·have tsh:(b.length:Int) - (m2:Int) < x:=by omega
           have HN:Hid (D = none):=hide (by rw [uh HD4,if_pos hsh])
           clear HD4 hy RV hw0 hw1 hw5 hw2 hm2 hsh
           go_enter Tryz.func23,Tryz.ntmps23
           go_wp2_with fail
           refine (uh RV1 _ (by first | exact al1p _ _ | exact al2p _ _ _)).mono ?_
           rintro e v ⟨rfl,hv⟩
           replace hv:=hv.symm
           subst hv
           go_wp2_with fail
           refine (uh RV2 _ (by first | exact al1p _ _ | exact al2p _ _ _)).mono ?_
           rintro e v ⟨rfl,hv⟩
           replace hv:=hv.symm
           subst hv
           go_wp2_with fail
           refine bodyPost_ret (v:=.tuple #[faV noFA,.int .i64 0,.bool D.isSome]) (by rw [uh HN]; simp [results,Tryz.results23,go_sem,faV,noFA]) rfl ⟨⟨noFA,0,rfl,hide (fun y hy => by rw [uh HN] at hy; cases hy)⟩,by first | exact al1p _ _ | exact al2p _ _ _⟩
          ·have tsh:¬ (b.length:Int) - (m2:Int) < x:=by omega
           rw [if_neg hsh] at HD4
           obtain ⟨X,hX⟩:∃ X:Nat,x = (X:Int):=⟨x.toNat,by omega⟩
           subst hX
           rw [Int.toNat_natCast] at HD4
           have HS:Hid (D = some ((N,W,0,(b.drop m2).take X),k + q + X)):=hide (by rw [uh HD4,hw2])
           clear HD4 hy RV hw0 hw1 hw5 hw2 hm2
           obtain ⟨b3,o3,e3,hb3,hc3⟩:=(uh A1).lies (show 0 < b.length by omega)
           have hcap:=(uh A1).1
           have CT:=hide (fun v (hv:Below w.heap.size w v) => (((uh A1).below hv).cut e3 m2 X (by omega)).ls)
           have hlen:((b.drop m2).take X).length = X:=by simp; omega
           have WB:=hide (isB_wf (isB_take (isB_drop (uh hB) m2) X))
           generalize (b.drop m2).take X = dd at CT hlen WB HS
           subst e3
           have HLEN:=hide hlen
           have hX1:X ≤ b.length:=by omega
           have hX2:m2 + X ≤ c:=by omega
           have hX3:(m2:Int) + (X:Int) ≤ (c:Int):=by omega
           clear hlen hc3 A1 hB x0 x1 t0 t1
           have t0:0 ≤ tag:=by omega
           go_enter Tryz.func23,Tryz.ntmps23
           go_wp2_with fail
           refine (uh RV1 _ (by first | exact al1p _ _ | exact al2p _ _ _)).mono ?_
           rintro e v ⟨rfl,hv⟩
           replace hv:=hv.symm
           subst hv
           go_wp2_with fail
           refine (uh RV2 _ (by first | exact al1p _ _ | exact al2p _ _ _)).mono ?_
           rintro e v ⟨rfl,hv⟩
           replace hv:=hv.symm
           subst hv
           go_wp2_with fail
           obtain ⟨M3,hM3⟩:∃ M3,m2 + X = M3:=⟨_,rfl⟩
           have hwX:IntKind.i64.wrap (X:Int) = (X:Int):=by rw [IntKind.wrap_i64]; omega
           have hwS:IntKind.i64.wrap ((m2:Int) + (X:Int)) = (M3:Int):=by rw [IntKind.wrap_i64]; omega
           have hM1:M3 ≤ c:=by omega
           have hM2:m2 ≤ M3:=by omega
           have hM4:M3 - m2 = X:=by omega
           have HM3:=hide hM3
           have hM5:M3 ≤ b.length:=by omega
           clear hM3 hX3 hX2 tsh hsh
           by_cases hcm:c = m2
           ·have hdd:dd = []:=List.eq_nil_of_length_eq_zero (by rw [uh HLEN]; omega)
            have HDD:=hide hdd
            subst hcm
            clear hdd
            go_region_law (refine step_append_nil rfl (.tmp 89) (.tmp 96) 28 rfl 5 i1 (.int .u8 0) 1 Tryz.underlying28 hi1 y1 z1 b1 rfl (int_one .u8) (by simp [Act.eval]) dd ⟨b3,o3,none⟩ 0 (by rw [uh HLEN]; simp [Act.eval]) (by rw [uh HDD]; intro j u hj; simp at hj) (by rw [uh HLEN]; unfold maxLen; omega) (by rw [uh HLEN]; omega) ?_; intro v5 w5 O5; obtain ⟨q5,d5,hv5,L5,F5⟩:=O5.form; subst hv5; have HL5:=hide L5; have HF5:=hide F5; have HT5:=hide O5; have M5:=hide (bl_tr (bl_tr (al2p _ _ _) (bdrewp _)) O5.2); have R5:=hide (Box.below (Box.below (Box.alloc (Box.new w #[.int .i64 0,.int .i64 0,.int .u64 0,.slice none 0 0] 63) _) (bdrewp _)) O5.2); have G5:=hide (Box.below (Box.below (Box.new (w.alloc _) #[.int .i64 N,.int .i64 W,.int .u64 0,.slice none 0 0] 63) (bdrewp _)) O5.2); simp only [alloc_size6] at G5; have r5:=(uh R5).cell; have rf:=(uh R5).frozen; have g5:=(uh G5).cell; have gf:=(uh G5).frozen; have z5:w.heap.size + 1 < w5.heap.size:=(uh G5).lt; clear O5 L5 F5)
            go_wp2_with fail
            refine bodyPost_ret (v:=.tuple #[faV ⟨N,W,0,dd,q5,d5⟩,.int .i64 (M3:Int),.bool D.isSome]) (by rw [uh HS]; simp [results,Tryz.results23,go_sem,faV,((uh R5).other (k:=w.heap.size + 1) (by omega) 3 (.slice q5 dd.length d5)).set4 (.int .i64 N) (.int .i64 W) (.int .u64 0) (.slice q5 dd.length d5) |>.cell]) rfl ⟨⟨⟨N,W,0,dd,q5,d5⟩,(M3:Int),rfl,hide (fun y hy => ?_)⟩,bset4 ((uh M5).setCell (by simp) _) (by omega) _ _ _ _⟩
            rw [uh HS] at hy
            simp only [Option.some.injEq] at hy
            subst hy
            have hf5:Fresh (w.heap.size + 2) w5 q5 dd.length:=(uh HF5).mono (by simp)
            exact ⟨rfl,by have:=uh HMK; have:=uh HM2; have:=uh HM3; simp only; omega,⟨i64_wf (by simp only; omega) (by simp only; omega),i64_wf (by simp only; omega) (by simp only; omega),rfl,((uh HL5).far5 hf5 (by omega) (by omega) _ _ _ _ _ _).ints (uh WB)⟩,(hf5.mono (by omega)).set5 _ _ _ _ _ _,DTy.set5 (a:=⟨N,W,0,dd,q5,d5⟩) (fun hp => by obtain ⟨b9,o9,c9,e9,_,h9⟩:=(uh HT5).typed hp; exact ⟨b9,o9,c9,e9,h9⟩) hf5 (by omega) (by omega) _ _ _ _ _ _⟩
           ·go_region_law (refine step_append_nil rfl (.tmp 89) (.tmp 96) 28 rfl 5 i1 (.int .u8 0) 1 Tryz.underlying28 hi1 y1 z1 b1 rfl (int_one .u8) (by simp [Act.eval]) dd ⟨b3,o3 + m2,none⟩ (c - m2) (by rw [uh HLEN]; simp [Act.eval]) (ls_cells (uh CT _ (bl_tr (al2p _ _ _) (bdrewp _)))) (by rw [uh HLEN]; unfold maxLen; omega) (by rw [uh HLEN]; omega) ?_; intro v5 w5 O5; obtain ⟨q5,d5,hv5,L5,F5⟩:=O5.form; subst hv5; have HL5:=hide L5; have HF5:=hide F5; have HT5:=hide O5; have M5:=hide (bl_tr (bl_tr (al2p _ _ _) (bdrewp _)) O5.2); have R5:=hide (Box.below (Box.below (Box.alloc (Box.new w #[.int .i64 0,.int .i64 0,.int .u64 0,.slice none 0 0] 63) _) (bdrewp _)) O5.2); have G5:=hide (Box.below (Box.below (Box.new (w.alloc _) #[.int .i64 N,.int .i64 W,.int .u64 0,.slice none 0 0] 63) (bdrewp _)) O5.2); simp only [alloc_size6] at G5; have r5:=(uh R5).cell; have rf:=(uh R5).frozen; have g5:=(uh G5).cell; have gf:=(uh G5).frozen; have z5:w.heap.size + 1 < w5.heap.size:=(uh G5).lt; clear O5 L5 F5)
            go_wp2_with fail
            refine bodyPost_ret (v:=.tuple #[faV ⟨N,W,0,dd,q5,d5⟩,.int .i64 (M3:Int),.bool D.isSome]) (by rw [uh HS]; simp [results,Tryz.results23,go_sem,faV,((uh R5).other (k:=w.heap.size + 1) (by omega) 3 (.slice q5 dd.length d5)).set4 (.int .i64 N) (.int .i64 W) (.int .u64 0) (.slice q5 dd.length d5) |>.cell]) rfl ⟨⟨⟨N,W,0,dd,q5,d5⟩,(M3:Int),rfl,hide (fun y hy => ?_)⟩,bset4 ((uh M5).setCell (by simp) _) (by omega) _ _ _ _⟩
            rw [uh HS] at hy
            simp only [Option.some.injEq] at hy
            subst hy
            have hf5:Fresh (w.heap.size + 2) w5 q5 dd.length:=(uh HF5).mono (by simp)
            exact ⟨rfl,by have:=uh HMK; have:=uh HM2; have:=uh HM3; simp only; omega,⟨i64_wf (by simp only; omega) (by simp only; omega),i64_wf (by simp only; omega) (by simp only; omega),rfl,((uh HL5).far5 hf5 (by omega) (by omega) _ _ _ _ _ _).ints (uh WB)⟩,(hf5.mono (by omega)).set5 _ _ _ _ _ _,DTy.set5 (a:=⟨N,W,0,dd,q5,d5⟩) (fun hp => by obtain ⟨b9,o9,c9,e9,_,h9⟩:=(uh HT5).typed hp; exact ⟨b9,o9,c9,e9,h9⟩) hf5 (by omega) (by omega) _ _ _ _ _ _⟩
       ·have e2:(W == 2) = false:=by simp [hw2]
        rw [if_neg hw2] at HD4
        have HN:Hid (D = none):=hide (uh HD4)
        clear HD4 RV RV2 hw0 hw1 hw5 hw2
        go_enter Tryz.func23,Tryz.ntmps23
        go_wp2_with fail
        refine (uh RV1 _ (by first | exact al1p _ _ | exact al2p _ _ _)).mono ?_
        rintro e v ⟨rfl,hv⟩
        replace hv:=hv.symm
        subst hv
        go_wp2_with fail
        refine bodyPost_ret (v:=.tuple #[faV noFA,.int .i64 0,.bool D.isSome]) (by rw [uh HN]; simp [results,Tryz.results23,go_sem,faV,noFA]) rfl ⟨⟨noFA,0,rfl,hide (fun y hy => by rw [uh HN] at hy; cases hy)⟩,by first | exact al1p _ _ | exact al2p _ _ _⟩
end Go.Proofs.YtaikppgoahdjbabGreat
