import Derived.Test.YtmdlaahdgjegcaaGreatV10
set_option maxRecDepth 100000
set_option maxHeartbeats 8000000
namespace Go.Proofs.YtmdlaahdgjegcaaGreat
open Go.RowKit
set_option linter.unusedVariables false
def errO {α:Type} (o:Option α):Int:=if o.isSome then 0 else 6
theorem and7 (t:Int) (h0:0 ≤ t) (h1:t < 18446744073709551616):bits .and .u64 t 7 = t % 8:=by
 have key:(BitVec.ofInt 64 t &&& BitVec.ofInt 64 7).toNat = t.toNat % 8:=by
  rw [BitVec.toNat_and,BitVec.toNat_ofInt,show (BitVec.ofInt 64 7).toNat = 2 ^ 3 - 1 by decide,Nat.and_two_pow_sub_one_eq_mod]
  have:(t % ((2 ^ 64:Nat):Int)).toNat = t.toNat:=by omega
  rw [this]
 show IntKind.u64.wrap ((BitVec.ofInt 64 t &&& BitVec.ofInt 64 7).toNat:Nat) = t % 8
 rw [key,IntKind.wrap_u64]
 omega
theorem cone_any (p:Option Addr) (c:Nat) (b:List Int) (n:Nat) (w:World) (h:Ints .u8 w p c b) (hn:n ≤ b.length) (hs:b.length ≤ 4194304) :
  Calls Tryz.prog 126 #[.slice p b.length c,.int .i64 n] w fun e w' => (∃ a nx,e = .returned (.tuple #[faV a,.int .i64 nx,.int .i64 (errO (oneL (b.drop n)))]) ∧ Hid (∀ y,oneL (b.drop n) = some y → a.f = y.1 ∧ nx = ((n + y.2:Nat):Int) ∧ FaIn w' a ∧ OwnD w.heap.size w' a)) ∧ Below w.heap.size w w':=by
 have A1:=hide h
 have hB:=hide (wf_isB h.2.2.1)
 have RV:=hide (fun (m:Nat) v (hv:Below w.heap.size w v) => crdv_any p c b (m:Int) v (h.below hv) (by omega))
 have DN:=hide (fun (m:Nat) v (hv:Below w.heap.size w v) => cdata_no p c b m v (h.below hv))
 have DY:=hide (fun (m X q:Nat) v (hv:Below w.heap.size w v) => cdata_yes p c b m X q v (h.below hv))
 have R4:=hide (fun (m:Nat) v (hv:Below w.heap.size w v) => cfour_any p c b m v (h.below hv))
 have R8:=hide (fun (m:Nat) v (hv:Below w.heap.size w v) => ceight_any p c b m v (h.below hv))
 obtain ⟨D,hD⟩:∃ D,oneL (b.drop n) = D:=⟨_,rfl⟩
 have HD:=hide (oneL_at hD hn)
 rw [hD]
 clear hD h
 have RV1:=hide (uh RV n)
 simp only [rdV_in hn] at RV1
 cases hg:rdG 10 (b.drop n) with
 | none =>
   rw [hg] at RV1
   simp only at RV1
   have HN:Hid (D = none):=hide (by rw [uh HD,hg])
   clear HD hg RV DN DY R4 R8
   go_enter Tryz.func126,Tryz.ntmps126
   go_wp2_with fail
   refine (uh RV1 _ (by first | exact al1p _ _ | exact al2p _ _ _)).mono ?_
   rintro e v ⟨rfl,hv⟩
   replace hv:=hv.symm
   subst hv
   go_wp2_with fail
   refine bodyPost_ret (v:=.tuple #[faV noFA,.int .i64 0,.int .i64 (errO D)]) (by rw [uh HN]; simp [results,Tryz.results126,go_sem,faV,noFA,errO]) rfl ⟨⟨noFA,0,rfl,hide (fun y hy => by rw [uh HN] at hy; cases hy)⟩,by first | exact al1p _ _ | exact al2p _ _ _⟩
 | some t =>
   obtain ⟨tag,k⟩:=t
   rw [hg] at RV1
   simp only at RV1
   obtain ⟨c1,c2,c3⟩:=rdG_count 10 _ tag k hg
   simp at c3
   obtain ⟨t0,t1⟩:=rdG10_range (isB_drop (uh hB) n) hg
   have HD2:=hide (uh HD)
   rw [hg] at HD2
   simp only at HD2
   obtain ⟨m,hm⟩:∃ m,n + k = m:=⟨_,rfl⟩
   have hmb:m ≤ b.length:=by omega
   have HMK:=hide hm
   rw [hm] at RV1 HD2
   clear hm hg HD
   by_cases hbad:tag / 8 < 1 ∨ 536870911 < tag / 8
   ·have HN:Hid (D = none):=hide (by rw [uh HD2,if_pos hbad])
    clear HD2 RV DN DY R4 R8
    by_cases h1:tag / 8 < 1
    ·clear hbad
     go_enter Tryz.func126,Tryz.ntmps126
     go_wp2_with fail
     refine (uh RV1 _ (by first | exact al1p _ _ | exact al2p _ _ _)).mono ?_
     rintro e v ⟨rfl,hv⟩
     replace hv:=hv.symm
     subst hv
     go_wp2_with fail
     refine bodyPost_ret (v:=.tuple #[faV noFA,.int .i64 0,.int .i64 (errO D)]) (by rw [uh HN]; simp [results,Tryz.results126,go_sem,faV,noFA,errO]) rfl ⟨⟨noFA,0,rfl,hide (fun y hy => by rw [uh HN] at hy; cases hy)⟩,by first | exact al1p _ _ | exact al2p _ _ _⟩
    ·have h2:536870911 < tag / 8:=by omega
     clear hbad
     go_enter Tryz.func126,Tryz.ntmps126
     go_wp2_with fail
     refine (uh RV1 _ (by first | exact al1p _ _ | exact al2p _ _ _)).mono ?_
     rintro e v ⟨rfl,hv⟩
     replace hv:=hv.symm
     subst hv
     go_wp2_with fail
     refine bodyPost_ret (v:=.tuple #[faV noFA,.int .i64 0,.int .i64 (errO D)]) (by rw [uh HN]; simp [results,Tryz.results126,go_sem,faV,noFA,errO]) rfl ⟨⟨noFA,0,rfl,hide (fun y hy => by rw [uh HN] at hy; cases hy)⟩,by first | exact al1p _ _ | exact al2p _ _ _⟩
   ·have h1:¬ tag / 8 < 1:=by omega
    have h2:¬ 536870911 < tag / 8:=by omega
    have HD3:=hide (uh HD2)
    rw [if_neg hbad] at HD3
    clear HD2 hbad
    have RV2:=hide (uh RV m)
    simp only [rdV_in hmb] at RV2
    have hand:=and7 tag t0 t1
    obtain ⟨N,hN⟩:∃ N,tag / 8 = N:=⟨_,rfl⟩
    obtain ⟨W,hW⟩:∃ W,tag % 8 = W:=⟨_,rfl⟩
    rw [hW] at hand
    have HD4:=hide (uh HD3)
    rw [hN,hW] at HD4
    have n1:1 ≤ N:=by omega
    have n2:N ≤ 536870911:=by omega
    have w1:0 ≤ W:=by omega
    have w2:W < 8:=by omega
    clear HD3 h1 h2
    by_cases hw0:W = 0
    ·have e0:(W == 0) = true:=by simp [hw0]
     have HD5:=hide (uh HD4)
     rw [if_pos hw0] at HD5
     clear HD4 DN DY R4 R8
     cases hy:rdG 10 (b.drop m) with
     | none =>
       rw [hy] at RV2
       simp only at RV2
       have HN:Hid (D = none):=hide (by rw [uh HD5,hy]; rfl)
       clear HD5 hy RV hw0
       go_enter Tryz.func126,Tryz.ntmps126
       go_wp2_with fail
       refine (uh RV1 _ (by first | exact al1p _ _ | exact al2p _ _ _)).mono ?_
       rintro e v ⟨rfl,hv⟩
       replace hv:=hv.symm
       subst hv
       go_wp2_with fail
       refine (uh RV2 _ (by first | exact al1p _ _ | exact al2p _ _ _)).mono ?_
       rintro e v ⟨rfl,hv⟩
       replace hv:=hv.symm
       subst hv
       go_wp2_with fail
       refine bodyPost_ret (v:=.tuple #[faV noFA,.int .i64 0,.int .i64 (errO D)]) (by rw [uh HN]; simp [results,Tryz.results126,go_sem,faV,noFA,errO]) rfl ⟨⟨noFA,0,rfl,hide (fun y hy => by rw [uh HN] at hy; cases hy)⟩,by first | exact al1p _ _ | exact al2p _ _ _⟩
     | some y =>
       obtain ⟨x,q⟩:=y
       rw [hy] at RV2
       simp only at RV2
       obtain ⟨x0,x1⟩:=rdG10_range (isB_drop (uh hB) m) hy
       obtain ⟨q1,q2,q3⟩:=rdG_count 10 _ x q hy
       simp at q3
       have HS:Hid (D = some ((N,W,x,[]),k + q)):=hide (by rw [uh HD5,hy,hw0]; rfl)
       obtain ⟨m2,hm2⟩:∃ m2,m + q = m2:=⟨_,rfl⟩
       have HM2:=hide hm2
       rw [hm2] at RV2
       have hm2b:m2 ≤ b.length:=by omega
       clear HD5 hy RV hw0 hm2
       go_enter Tryz.func126,Tryz.ntmps126
       go_wp2_with fail
       refine (uh RV1 _ (by first | exact al1p _ _ | exact al2p _ _ _)).mono ?_
       rintro e v ⟨rfl,hv⟩
       replace hv:=hv.symm
       subst hv
       go_wp2_with fail
       refine (uh RV2 _ (by first | exact al1p _ _ | exact al2p _ _ _)).mono ?_
       rintro e v ⟨rfl,hv⟩
       replace hv:=hv.symm
       subst hv
       go_wp2_with fail
       refine bodyPost_ret (v:=.tuple #[faV ⟨N,W,x,[],none,0⟩,.int .i64 ((m2:Int)),.int .i64 (errO D)]) (by rw [uh HS]; simp [results,Tryz.results126,go_sem,faV,errO]) rfl ⟨⟨⟨N,W,x,[],none,0⟩,((m2:Int)),rfl,hide (fun y hy => ?_)⟩,by first | exact al1p _ _ | exact al2p _ _ _⟩
       rw [uh HS] at hy
       simp only [Option.some.injEq] at hy
       subst hy
       exact ⟨rfl,by have:=uh HM2; have:=uh HMK; simp only; omega,⟨i64_wf (by simp only; omega) (by simp only; omega),i64_wf (by simp only; omega) (by simp only; omega),u64_wf x0 x1,nil8 _⟩,OwnD.no _ _ _ _ _⟩
    ·have e0:(W == 0) = false:=by simp [hw0]
     rw [if_neg hw0] at HD4
     by_cases hw1:W = 1
     ·skip
      have e1:(W == 1) = true:=by simp [hw1]
      have HD5:=hide (uh HD4)
      rw [if_pos hw1] at HD5
      have RW:=hide (fun v hv => uh R8 m v hv hmb (by omega))
      clear HD4 RV2 RV DN DY R4 R8
      by_cases hsh:b.length < m + 8
      ·have HN:Hid (D = none):=hide (by rw [uh HD5,if_pos hsh])
       simp only [if_pos hsh] at RW
       clear HD5 hw0 hw1
       go_enter Tryz.func126,Tryz.ntmps126
       go_wp2_with fail
       refine (uh RV1 _ (by first | exact al1p _ _ | exact al2p _ _ _)).mono ?_
       rintro e v ⟨rfl,hv⟩
       replace hv:=hv.symm
       subst hv
       go_wp2_with fail
       refine (uh RW _ (by first | exact al1p _ _ | exact al2p _ _ _)).mono ?_
       rintro e v ⟨rfl,hv⟩
       replace hv:=hv.symm
       subst hv
       go_wp2_with fail
       refine bodyPost_ret (v:=.tuple #[faV noFA,.int .i64 0,.int .i64 (errO D)]) (by rw [uh HN]; simp [results,Tryz.results126,go_sem,faV,noFA,errO]) rfl ⟨⟨noFA,0,rfl,hide (fun y hy => by rw [uh HN] at hy; cases hy)⟩,by first | exact al1p _ _ | exact al2p _ _ _⟩
      ·simp only [if_neg hsh] at RW
       have hlen:((b.drop m).take 8).length = 8:=by simp; omega
       obtain ⟨x0,l1⟩:=leV_range ((b.drop m).take 8) (isB_take (isB_drop (uh hB) _) 8)
       rw [hlen] at l1
       have x1:leV ((b.drop m).take 8) < 18446744073709551616:=by
        have:(256:Int) ^ 8 ≤ 18446744073709551616:=by decide
        omega
       have HS:Hid (D = some ((N,W,leV ((b.drop m).take 8),[]),k + 8)):=hide (by rw [uh HD5,if_neg hsh,hw1])
       generalize leV ((b.drop m).take 8) = x at RW x0 x1 HS
       obtain ⟨m2,hm2⟩:∃ m2,m + 8 = m2:=⟨_,rfl⟩
       have HM2:=hide hm2
       rw [hm2] at RW
       clear HD5 hw0 hw1 hlen l1 A1 hm2
       go_enter Tryz.func126,Tryz.ntmps126
       go_wp2_with fail
       refine (uh RV1 _ (by first | exact al1p _ _ | exact al2p _ _ _)).mono ?_
       rintro e v ⟨rfl,hv⟩
       replace hv:=hv.symm
       subst hv
       go_wp2_with fail
       refine (uh RW _ (by first | exact al1p _ _ | exact al2p _ _ _)).mono ?_
       rintro e v ⟨rfl,hv⟩
       replace hv:=hv.symm
       subst hv
       go_wp2_with fail
       refine bodyPost_ret (v:=.tuple #[faV ⟨N,W,x,[],none,0⟩,.int .i64 ((m2:Int)),.int .i64 (errO D)]) (by rw [uh HS]; simp [results,Tryz.results126,go_sem,faV,errO]) rfl ⟨⟨⟨N,W,x,[],none,0⟩,((m2:Int)),rfl,hide (fun y hy => ?_)⟩,by first | exact al1p _ _ | exact al2p _ _ _⟩
       rw [uh HS] at hy
       simp only [Option.some.injEq] at hy
       subst hy
       exact ⟨rfl,by have:=uh HM2; have:=uh HMK; simp only; omega,⟨i64_wf (by simp only; omega) (by simp only; omega),i64_wf (by simp only; omega) (by simp only; omega),u64_wf x0 x1,nil8 _⟩,OwnD.no _ _ _ _ _⟩
     ·have e1:(W == 1) = false:=by simp [hw1]
      rw [if_neg hw1] at HD4
      by_cases hw5:W = 5
      ·skip
       have e5:(W == 5) = true:=by simp [hw5]
       have HD5:=hide (uh HD4)
       rw [if_pos hw5] at HD5
       have RW:=hide (fun v hv => uh R4 m v hv hmb (by omega))
       clear HD4 RV2 RV DN DY R4 R8
       by_cases hsh:b.length < m + 4
       ·have HN:Hid (D = none):=hide (by rw [uh HD5,if_pos hsh])
        simp only [if_pos hsh] at RW
        clear HD5 hw0 hw5
        go_enter Tryz.func126,Tryz.ntmps126
        go_wp2_with fail
        refine (uh RV1 _ (by first | exact al1p _ _ | exact al2p _ _ _)).mono ?_
        rintro e v ⟨rfl,hv⟩
        replace hv:=hv.symm
        subst hv
        go_wp2_with fail
        refine (uh RW _ (by first | exact al1p _ _ | exact al2p _ _ _)).mono ?_
        rintro e v ⟨rfl,hv⟩
        replace hv:=hv.symm
        subst hv
        go_wp2_with fail
        refine bodyPost_ret (v:=.tuple #[faV noFA,.int .i64 0,.int .i64 (errO D)]) (by rw [uh HN]; simp [results,Tryz.results126,go_sem,faV,noFA,errO]) rfl ⟨⟨noFA,0,rfl,hide (fun y hy => by rw [uh HN] at hy; cases hy)⟩,by first | exact al1p _ _ | exact al2p _ _ _⟩
       ·simp only [if_neg hsh] at RW
        have hlen:((b.drop m).take 4).length = 4:=by simp; omega
        obtain ⟨x0,l1⟩:=leV_range ((b.drop m).take 4) (isB_take (isB_drop (uh hB) _) 4)
        rw [hlen] at l1
        have x1:leV ((b.drop m).take 4) < 18446744073709551616:=by
         have:(256:Int) ^ 4 ≤ 18446744073709551616:=by decide
         omega
        have HS:Hid (D = some ((N,W,leV ((b.drop m).take 4),[]),k + 4)):=hide (by rw [uh HD5,if_neg hsh,hw5])
        generalize leV ((b.drop m).take 4) = x at RW x0 x1 HS
        obtain ⟨m2,hm2⟩:∃ m2,m + 4 = m2:=⟨_,rfl⟩
        have HM2:=hide hm2
        rw [hm2] at RW
        clear HD5 hw0 hw5 hlen l1 A1 hm2
        go_enter Tryz.func126,Tryz.ntmps126
        go_wp2_with fail
        refine (uh RV1 _ (by first | exact al1p _ _ | exact al2p _ _ _)).mono ?_
        rintro e v ⟨rfl,hv⟩
        replace hv:=hv.symm
        subst hv
        go_wp2_with fail
        refine (uh RW _ (by first | exact al1p _ _ | exact al2p _ _ _)).mono ?_
        rintro e v ⟨rfl,hv⟩
        replace hv:=hv.symm
        subst hv
        go_wp2_with fail
        refine bodyPost_ret (v:=.tuple #[faV ⟨N,W,x,[],none,0⟩,.int .i64 ((m2:Int)),.int .i64 (errO D)]) (by rw [uh HS]; simp [results,Tryz.results126,go_sem,faV,errO]) rfl ⟨⟨⟨N,W,x,[],none,0⟩,((m2:Int)),rfl,hide (fun y hy => ?_)⟩,by first | exact al1p _ _ | exact al2p _ _ _⟩
        rw [uh HS] at hy
        simp only [Option.some.injEq] at hy
        subst hy
        exact ⟨rfl,by have:=uh HM2; have:=uh HMK; simp only; omega,⟨i64_wf (by simp only; omega) (by simp only; omega),i64_wf (by simp only; omega) (by simp only; omega),u64_wf x0 x1,nil8 _⟩,OwnD.no _ _ _ _ _⟩
      ·have e5:(W == 5) = false:=by simp [hw5]
       rw [if_neg hw5] at HD4
       by_cases hw2:W = 2
       ·have e2:(W == 2) = true:=by simp [hw2]
        rw [if_pos hw2] at HD4
        have NOd:Hid ((∀ x q,rdG 10 (b.drop m) = some (x,q) → (b.length:Int) < ((m + q:Nat):Int) + x) → D = none):=hide (fun hh => by
         rw [uh HD4]
         cases hy:rdG 10 (b.drop m) with
         | none => rfl
         | some y =>
           obtain ⟨x,q⟩:=y
           simp only
           rw [if_pos (hh x q hy)])
        by_cases hno:∀ x q,rdG 10 (b.drop m) = some (x,q) → (b.length:Int) < ((m + q:Nat):Int) + x
        ·have HN:Hid (D = none):=hide (uh NOd hno)
         have RW:=hide (fun v hv => uh DN m v hv hmb hs hno)
         clear HD4 NOd hno RV RV2 DN DY R4 R8 hw0 hw1 hw5 hw2
         go_enter Tryz.func126,Tryz.ntmps126
         go_wp2_with fail
         refine (uh RV1 _ (by first | exact al1p _ _ | exact al2p _ _ _)).mono ?_
         rintro e v ⟨rfl,hv⟩
         replace hv:=hv.symm
         subst hv
         go_wp2_with fail
         refine (uh RW _ (by first | exact al1p _ _ | exact al2p _ _ _)).mono ?_
         rintro e v ⟨rfl,hv⟩
         replace hv:=hv.symm
         subst hv
         go_wp2_with fail
         refine bodyPost_ret (v:=.tuple #[faV noFA,.int .i64 0,.int .i64 (errO D)]) (by rw [uh HN]; simp [results,Tryz.results126,go_sem,faV,noFA,errO]) rfl ⟨⟨noFA,0,rfl,hide (fun y hy => by rw [uh HN] at hy; cases hy)⟩,by first | exact al1p _ _ | exact al2p _ _ _⟩
        ·obtain ⟨x,q,hy,hx⟩:∃ x q,rdG 10 (b.drop m) = some (x,q) ∧ ¬ (b.length:Int) < ((m + q:Nat):Int) + x:=by
          refine Classical.byContradiction (fun hh => hno (fun x q hy => Classical.byContradiction (fun hx => hh ⟨x,q,hy,hx⟩)))
         obtain ⟨x0,x1⟩:=rdG10_range (isB_drop (uh hB) m) hy
         obtain ⟨X,hX⟩:∃ X:Nat,x = (X:Int):=⟨x.toNat,by omega⟩
         subst hX
         have hXb:m + q + X ≤ b.length:=by omega
         have RW:=hide (fun v hv => uh DY m X q v hv hmb hs hy hXb)
         have HS:Hid (D = some ((N,W,0,(b.drop (m + q)).take X),k + q + X)):=hide (by
          rw [uh HD4,hy]
          simp only
          rw [if_neg hx,Int.toNat_natCast,hw2])
         have WB:=hide (isB_wf (isB_take (isB_drop (uh hB) (m + q)) X))
         generalize (b.drop (m + q)).take X = dd at RW HS WB
         obtain ⟨m2,hm2⟩:∃ m2,m + q + X = m2:=⟨_,rfl⟩
         have HM2:=hide hm2
         rw [hm2] at RW
         clear HD4 NOd hno RV RV2 DN DY R4 R8 hw0 hw1 hw5 hw2 hy hx x0 x1 hXb hm2
         go_enter Tryz.func126,Tryz.ntmps126
         go_wp2_with fail
         refine (uh RV1 _ (by first | exact al1p _ _ | exact al2p _ _ _)).mono ?_
         rintro e v ⟨rfl,hv⟩
         replace hv:=hv.symm
         subst hv
         go_wp2_with fail
         refine (uh RW _ (by first | exact al1p _ _ | exact al2p _ _ _)).mono ?_
         rintro e w5 ⟨v5,rfl,O5⟩
         obtain ⟨q5,d5,hv5,L5,F5⟩:=O5.form
         subst hv5
         have HL5:=hide L5
         have HT5:=hide O5
         have M5:=hide (bl_tr (al2p _ _ _) O5.2)
         have R5:=hide (Box.below (Box.alloc (Box.new w #[.int .i64 0,.int .i64 0,.int .u64 0,.slice none 0 0] 148) _) O5.2)
         have G5:=hide (Box.below (Box.new (w.alloc _) #[.int .i64 N,.int .i64 W,.int .u64 0,.slice none 0 0] 148) O5.2)
         simp only [alloc_size6] at G5
         have r5:=(uh R5).cell
         have rf:=(uh R5).frozen
         have g5:=(uh G5).cell
         have gf:=(uh G5).frozen
         have z5:w.heap.size + 1 < w5.heap.size:=(uh G5).lt
         clear O5 L5 F5 RW
         go_wp2_with fail
         refine bodyPost_ret (v:=.tuple #[faV ⟨N,W,0,dd,q5,d5⟩,.int .i64 (m2:Int),.int .i64 (errO D)]) (by rw [uh HS]; simp [results,Tryz.results126,go_sem,faV,errO,((uh R5).other (k:=w.heap.size + 1) (by omega) 3 (.slice q5 dd.length d5)).set4 (.int .i64 N) (.int .i64 W) (.int .u64 0) (.slice q5 dd.length d5) |>.cell]) rfl ⟨⟨⟨N,W,0,dd,q5,d5⟩,(m2:Int),rfl,hide (fun y hy => ?_)⟩,bset4 ((uh M5).setCell (by simp) _) (by omega) _ _ _ _⟩
         rw [uh HS] at hy
         simp only [Option.some.injEq] at hy
         subst hy
         have hd5:OwnD (w.heap.size + 2) w5 ⟨N,W,0,dd,q5,d5⟩:=OwnD.mono (own_d (uh HT5)) (by simp)
         have hf5:Fresh (w.heap.size + 2) w5 q5 dd.length:=by
          intro b o e hp
          obtain ⟨_,_,ev,_,hF⟩:=(uh HT5).form
          simp only [Value.slice.injEq] at ev
          obtain ⟨e1,_,_⟩:=ev
          rw [e1] at e
          have:=(hF b o e hp).1
          simp only [alloc_size6] at this
          exact ⟨by omega,(hF b o e hp).2⟩
         exact ⟨rfl,by have:=uh HMK; have:=uh HM2; simp only; omega,⟨i64_wf (by simp only; omega) (by simp only; omega),i64_wf (by simp only; omega) (by simp only; omega),rfl,((uh HL5).far5 hf5 (by omega) (by omega) _ _ _ _ _ _).ints (uh WB)⟩,(OwnD.set5 (C:=0) hd5 (by omega) (by omega) _ _ _ _ _ _).mono (by omega)⟩
       ·have e2:(W == 2) = false:=by simp [hw2]
        rw [if_neg hw2] at HD4
        have HN:Hid (D = none):=hide (uh HD4)
        clear HD4 RV RV2 DN DY R4 R8 hw0 hw1 hw5 hw2
        go_enter Tryz.func126,Tryz.ntmps126
        go_wp2_with fail
        refine (uh RV1 _ (by first | exact al1p _ _ | exact al2p _ _ _)).mono ?_
        rintro e v ⟨rfl,hv⟩
        replace hv:=hv.symm
        subst hv
        go_wp2_with fail
        refine bodyPost_ret (v:=.tuple #[faV noFA,.int .i64 0,.int .i64 (errO D)]) (by rw [uh HN]; simp [results,Tryz.results126,go_sem,faV,noFA,errO]) rfl ⟨⟨noFA,0,rfl,hide (fun y hy => by rw [uh HN] at hy; cases hy)⟩,by first | exact al1p _ _ | exact al2p _ _ _⟩
end Go.Proofs.YtmdlaahdgjegcaaGreat
