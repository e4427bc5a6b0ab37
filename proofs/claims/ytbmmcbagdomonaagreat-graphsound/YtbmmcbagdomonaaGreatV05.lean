import Derived.Test.YtbmmcbagdomonaaGreatV04
set_option maxRecDepth 100000
set_option maxHeartbeats 40000000
namespace Go.Proofs.YtbmmcbagdomonaaGreat
open Go.RowKit
set_option linter.unusedVariables false
theorem quo_gt {N x:Int} (h0:0 < N) (h1:N ≤ 4096) (hx:0 ≤ x):(4096 / N < x) ↔ 4096 < N * x:=by
 constructor
 ·intro h
  rcases Int.lt_or_le 4096 (N * x) with g | g
  ·exact g
  ·have:=Int.le_ediv_of_mul_le h0 (a:=x) (b:=4096) (by rw [Int.mul_comm]; exact g)
   omega
 ·intro h
  rcases Int.lt_or_le (4096 / N) x with g | g
  ·exact g
  ·have h2:N * x ≤ N * (4096 / N):=Int.mul_le_mul_of_nonneg_left g (by omega)
   have h3:N * (4096 / N) ≤ 4096:=Int.mul_ediv_self_le (by omega)
   omega
theorem countF_step {N x:Int} {r:List Int} (h0:0 < N) (hx:0 < x):countF N (x :: r) = if 4096 < N * x then (0,8) else countF (N * x) r:=by
 rw [countF]
 by_cases h:4096 < x
 ·rw [if_pos h]
  have:x ≤ N * x:=by
   have:=Int.mul_le_mul_of_nonneg_right (show (1:Int) ≤ N by omega) (show 0 ≤ x by omega)
   omega
  rw [if_pos (by omega)]
 ·rw [if_neg h]
theorem wq4096 {N:Int} (h0:0 < N) (h1:N ≤ 4096):IntKind.i64.wrap (Int.tdiv 4096 N) = 4096 / N:=by
 rw [Int.tdiv_eq_ediv_of_nonneg (by omega),IntKind.wrap_i64]
 have a1:0 ≤ 4096 / N:=Int.ediv_nonneg (by omega) (by omega)
 have a2:4096 / N ≤ 4096:=Int.ediv_le_self _ (by omega)
 omega
theorem ccount_any (p:Option Addr) (c:Nat) (ds:List Int) (w:World) (h:Ints .i64 w p c ds) :
  Calls Tryz.prog 122 #[.slice p ds.length c] w fun e w' => e = .returned (.tuple #[.int .i64 (countV ds).1,.int .i64 (countV ds).2]) ∧ w' = w:=by
 have A1:=hide h
 have nl:=h.len
 have HR:Hid (∀ R,countV ds = R → R = if ds.any (fun x => decide (x < 0)) = true then (0,1) else if 8 < ds.length then (0,8) else if ds.any (fun x => x == 0) = true then (0,0) else countF 1 ds):=hide (fun R hR => by rw [← hR]; rfl)
 generalize hR:countV ds = R
 replace HR:=hide (uh HR R hR)
 clear hR h
 obtain ⟨R1,R2⟩:=R
 simp only
 go_enter Tryz.func122,Tryz.ntmps122
 go_wp2_with fail
 go_loop [4,12] (fun zv iv => ∃ n:Nat,∃ z:Bool,iv = .int .i64 n ∧ zv = .bool z ∧ n ≤ ds.length ∧ Hid (z = (ds.take n).any (fun x => x == 0)) ∧ Hid ((ds.take n).any (fun x => decide (x < 0)) = false)) (fun _ iv => ds.length - (intOf iv).toNat)
 case atStart => exact ⟨0,false,rfl,rfl,by omega,hide rfl,hide rfl⟩
 case round =>
  obtain ⟨n,z,rfl,rfl,hn,HZ,HN⟩:=hrel
  by_cases hlt:n < ds.length
  ·have hi:(n:Int) < (ds.length:Int):=by omega
   obtain ⟨b,o,rfl,hb,hc⟩:=(uh A1).lies (by omega)
   have k1:w.cell? ⟨b,o + n,none⟩ = some (.int .i64 (ds.getD n 0)):=hc n hlt
   have HT0:=hide (any_takeI (fun x => x == 0) ds n hlt)
   have HT1:=hide (any_takeI (fun x => decide (x < 0)) ds n hlt)
   have HM:Hid (ds.getD n 0 < 0 → ds.any (fun x => decide (x < 0)) = true):=hide (fun hh => any_memI (P:=fun x => decide (x < 0)) hlt (by simpa using hh))
   generalize ds.getD n 0 = x at k1 HT0 HT1 HM
   clear hc
   by_cases hx:x < 0
   ·have HE:Hid (R1 = 0 ∧ R2 = 1):=hide (by have:=uh HR; rw [if_pos (uh HM hx)] at this; simpa using this)
    clear HT0 HT1 HM HZ HN HR
    go_wp2_with fail
    go_ret2
    exact ⟨by rw [(uh HE).1,(uh HE).2]; rfl,rfl⟩
   ·have HN2:Hid ((ds.take (n + 1)).any (fun x => decide (x < 0)) = false):=hide (by rw [uh HT1,uh HN]; simp; omega)
    cases z with
    | true =>
      have HZ2:Hid (true = (ds.take (n + 1)).any (fun x => x == 0)):=hide (by rw [uh HT0,← uh HZ]; rfl)
      clear HT0 HT1 HM HZ HN
      go_wp2_with fail
      go_round
      case rel => exact ⟨n + 1,true,by go_num,rfl,by omega,HZ2,HN2⟩
      case measure => simp [intOf]; omega
    | false =>
      have HZ2:Hid ((x == 0) = (ds.take (n + 1)).any (fun x => x == 0)):=hide (by rw [uh HT0,← uh HZ]; simp)
      clear HT0 HT1 HM HZ HN
      by_cases hx0:x = 0
      ·have tx:(x == 0) = true:=by simp [hx0]
       go_wp2_with fail
       go_round
       case rel => exact ⟨n + 1,true,by go_num,rfl,by omega,hide (by rw [← uh HZ2,tx]),HN2⟩
       case measure => simp [intOf]; omega
      ·have tx:(x == 0) = false:=by simp [hx0]
       go_wp2_with fail
       go_round
       case rel => exact ⟨n + 1,false,by go_num,rfl,by omega,hide (by rw [← uh HZ2,tx]),HN2⟩
       case measure => simp [intOf]; omega
  ·have hi:¬ (n:Int) < (ds.length:Int):=by omega
   have HN3:Hid (ds.any (fun x => decide (x < 0)) = false):=hide (by have:=uh HN; rw [List.take_of_length_le (by omega)] at this; exact this)
   have HZ3:Hid (z = ds.any (fun x => x == 0)):=hide (by have:=uh HZ; rw [List.take_of_length_le (by omega)] at this; exact this)
   have HR2:Hid ((R1,R2) = if 8 < ds.length then ((0,8):Int × Int) else if ds.any (fun x => x == 0) = true then (0,0) else countF 1 ds):=hide (by have:=uh HR; rw [uh HN3,if_neg (by decide)] at this; exact this)
   clear HZ HN HR
   by_cases h8:8 < ds.length
   ·have t8:(8:Int) < (ds.length:Int):=by omega
    have HE:Hid (R1 = 0 ∧ R2 = 8):=hide (by have:=uh HR2; rw [if_pos h8] at this; simpa using this)
    go_wp2_with fail
    go_ret2
    exact ⟨by rw [(uh HE).1,(uh HE).2]; rfl,rfl⟩
   ·have t8:¬ (8:Int) < (ds.length:Int):=by omega
    cases z with
    | true =>
      have HE:Hid (R1 = 0 ∧ R2 = 0):=hide (by have:=uh HR2; rw [if_neg h8,← uh HZ3,if_pos rfl] at this; simpa using this)
      clear HR2
      go_wp2_with fail
      go_ret2
      exact ⟨by rw [(uh HE).1,(uh HE).2]; rfl,rfl⟩
    | false =>
      have HC:Hid (countF 1 ds = (R1,R2)):=hide (by have:=uh HR2; rw [if_neg h8,← uh HZ3,if_neg (by decide)] at this; exact this.symm)
      have HP:Hid (∀ x ∈ ds,0 < x):=hide (fun x hx => by
       have h1:=uh HN3
       rw [List.any_eq_false] at h1
       have h1:=h1 x hx
       have h2:=(uh HZ3).symm
       rw [List.any_eq_false] at h2
       have h2:=h2 x hx
       simp at h1 h2
       omega)
      clear HR2
      go_wp2_with fail
      go_loop [7,30] (fun mv iv => ∃ j:Nat,∃ N:Int,iv = .int .i64 j ∧ mv = .int .i64 N ∧ j ≤ ds.length ∧ 0 < N ∧ N ≤ 4096 ∧ Hid (countF N (ds.drop j) = (R1,R2))) (fun _ iv => ds.length - (intOf iv).toNat)
      case atStart => exact ⟨0,1,rfl,rfl,by omega,by omega,by omega,hide (by rw [List.drop_zero]; exact uh HC)⟩
      case round =>
       obtain ⟨j,N,rfl,rfl,hj,N0,N1,HJ⟩:=hrel
       by_cases hjl:j < ds.length
       ·have hji:(j:Int) < (ds.length:Int):=by omega
        obtain ⟨b,o,rfl,hb,hc⟩:=(uh A1).lies (by omega)
        have k1:w.cell? ⟨b,o + j,none⟩ = some (.int .i64 (ds.getD j 0)):=hc j hjl
        have x0:=uh HP _ (getD_mem6 hjl)
        have HD:Hid (countF N (ds.getD j 0 :: ds.drop (j + 1)) = (R1,R2)):=hide (by rw [← drop_cons6 hjl]; exact uh HJ)
        generalize ds.getD j 0 = x at k1 x0 HD
        clear hc HJ
        have nz:(N == 0) = false:=by rw [beq_eq_false_iff_ne]; omega
        have nz2:N ≠ 0:=by omega
        have hq:=wq4096 N0 N1
        have hqq:=quo_gt N0 N1 (Int.le_of_lt x0)
        have a1:0 ≤ 4096 / N:=Int.ediv_nonneg (by omega) (by omega)
        have a2:4096 / N ≤ 4096:=Int.ediv_le_self _ (by omega)
        have HS:=hide (countF_step (r:=ds.drop (j + 1)) N0 x0)
        have hm0:0 < N * x:=Int.mul_pos N0 x0
        obtain ⟨M,hM⟩:∃ M,N * x = M:=⟨_,rfl⟩
        obtain ⟨Q,hQ⟩:∃ Q,4096 / N = Q:=⟨_,rfl⟩
        rw [hQ] at hq hqq a1 a2
        rw [hM] at hqq hm0
        rw [uh HS,hM] at HD
        have HM:=hide hM
        have HQ:=hide hQ
        clear HS hQ hM
        by_cases hbig:4096 < M
        ·have HE:Hid (R1 = 0 ∧ R2 = 8):=hide (by have:=uh HD; rw [if_pos hbig] at this; simp only [Prod.mk.injEq] at this; exact ⟨this.1.symm,this.2.symm⟩)
         have hxq:Q < x:=hqq.2 hbig
         clear HD hqq
         go_wp2_with fail
         go_ret2
         exact ⟨by rw [(uh HE).1,(uh HE).2]; rfl,rfl⟩
        ·have HD2:Hid (countF M (ds.drop (j + 1)) = (R1,R2)):=hide (by have:=uh HD; rw [if_neg hbig] at this; exact this)
         have hxq:¬ Q < x:=fun h => hbig (hqq.1 h)
         have hwr:IntKind.i64.wrap (N * x) = M:=by rw [uh HM,IntKind.wrap_i64]; omega
         clear HD hqq
         go_wp2_with fail
         go_round
         case rel => exact ⟨j + 1,M,by go_num,by first | rfl | (rw [uh HM]) | (rw [hwr]),by omega,hm0,by omega,HD2⟩
         case measure => simp [intOf]; omega
       ·have hji:¬ (j:Int) < (ds.length:Int):=by omega
        have HE:Hid (R1 = N ∧ R2 = 0):=hide (by have:=uh HJ; rw [List.drop_of_length_le (by omega),countF] at this; simp only [Prod.mk.injEq] at this; exact ⟨this.1.symm,this.2.symm⟩)
        clear HJ
        go_wp2_with fail
        go_ret2
        exact ⟨by rw [(uh HE).1,(uh HE).2]; rfl,rfl⟩
theorem cwidth_any (k:Int) (w:World):Calls Tryz.prog 123 #[.int .i64 k] w fun e w' => e = .returned (.int .i64 (widthV k)) ∧ w' = w:=by
 unfold widthV
 by_cases h1:k = 1
 ·subst h1
  go_enter Tryz.func123,Tryz.ntmps123
  go_wp2_with fail
  go_ret
  exact ⟨rfl,rfl⟩
 ·have e1:(k == 1) = false:=by simp [h1]
  rw [if_neg h1]
  by_cases h7:k = 7
  ·subst h7
   go_enter Tryz.func123,Tryz.ntmps123
   go_wp2_with fail
   go_ret
   exact ⟨rfl,rfl⟩
  ·have e7:(k == 7) = false:=by simp [h7]
   rw [if_neg h7]
   by_cases h9:k = 9
   ·subst h9
    go_enter Tryz.func123,Tryz.ntmps123
    go_wp2_with fail
    go_ret
    exact ⟨rfl,rfl⟩
   ·have e9:(k == 9) = false:=by simp [h9]
    rw [if_neg h9]
    clear h1 h7 h9
    go_enter Tryz.func123,Tryz.ntmps123
    go_wp2_with fail
    go_ret
    exact ⟨rfl,rfl⟩
theorem width_knownB (k:Int):(widthV k == 0) = !knownB k:=by
 unfold widthV knownB
 by_cases h1:k = 1
 ·subst h1; decide
 ·by_cases h7:k = 7
  ·subst h7; decide
  ·by_cases h9:k = 9
   ·subst h9; decide
   ·simp [h1,h7,h9]
def ownN (t:TenD):Int:=if t.1 = 1 then (t.2.2.1.length:Int) else if t.1 = 7 then (t.2.2.2.1.length:Int) else (t.2.2.2.2.length:Int)
def elemsN (t:TenD):Int:=(t.2.2.1.length:Int) + t.2.2.2.1.length + t.2.2.2.2.length
def mayT (t:TenD):Bool:=knownB t.1 && ((countV t.2.1).2 != 1 && ((countV t.2.1).2 != 0 || (ownN t == (countV t.2.1).1 && elemsN t == (countV t.2.1).1)))
theorem mayT_W (t:TenD):mayT t = !(tensW t).1:=by
 obtain ⟨ty,ds,fs,is,bs⟩:=t
 unfold mayT tensW
 simp only
 by_cases hk:knownB ty = false
 ·rw [if_pos hk,hk]; rfl
 ·rw [if_neg hk]
  have hk':knownB ty = true:=by simpa using hk
  rw [hk']
  have hs:(hasT (ty,ds,fs,is,bs)).1 = ownN (ty,ds,fs,is,bs) ∧ ((0 < (hasT (ty,ds,fs,is,bs)).2) ↔ elemsN (ty,ds,fs,is,bs) ≠ ownN (ty,ds,fs,is,bs)):=by
   unfold hasT ownN elemsN
   simp only
   by_cases h1:ty = 1
   ·simp only [if_pos h1]; constructor
    ·trivial
    ·omega
   ·simp only [if_neg h1]
    by_cases h7:ty = 7
    ·simp only [if_pos h7]; constructor
     ·trivial
     ·omega
    ·simp only [if_neg h7]; constructor
     ·trivial
     ·omega
  unfold dimsW f3 bad3 big3
  simp only
  obtain ⟨s1,s2⟩:=hs
  generalize countV ds = C
  obtain ⟨C1,C2⟩:=C
  rw [s1]
  have s3:(decide (ownN (ty,ds,fs,is,bs) ≠ C1 ∨ 0 < (hasT (ty,ds,fs,is,bs)).2)) = !(ownN (ty,ds,fs,is,bs) == C1 && elemsN (ty,ds,fs,is,bs) == C1):=by
   rw [Bool.eq_iff_iff]
   simp only [decide_eq_true_eq,Bool.not_eq_true',Bool.and_eq_false_iff,beq_eq_false_iff_ne,s2]
   omega
  rw [s3]
  simp only [bne]
  generalize (C2 == 1) = a
  generalize (C2 == 0) = b
  generalize (ownN (ty,ds,fs,is,bs) == C1 && elemsN (ty,ds,fs,is,bs) == C1) = d
  cases a <;> cases b <;> cases d <;> rfl
theorem cown_any (T:Ten) (A:TA) (w:World):Calls Tryz.prog 124 #[tenV T A] w fun e w' => e = .returned (.int .i64 (ownN T)) ∧ Below w.heap.size w w':=by
 obtain ⟨ty,ds,fs,is,bs⟩:=T
 obtain ⟨pd,cd,pf,cf,pi,ci,pb,cb⟩:=A
 unfold tenV tenCells ownN
 simp only
 have HB:=hide (fun o => al1p w o)
 by_cases h1:ty = 1
 ·subst h1
  go_enter Tryz.func124,Tryz.ntmps124
  go_wp2_with fail
  go_ret
  exact ⟨rfl,uh HB _⟩
 ·have e1:(ty == 1) = false:=by simp [h1]
  rw [if_neg h1]
  by_cases h7:ty = 7
  ·subst h7
   go_enter Tryz.func124,Tryz.ntmps124
   go_wp2_with fail
   go_ret
   exact ⟨rfl,uh HB _⟩
  ·have e7:(ty == 7) = false:=by simp [h7]
   rw [if_neg h7]
   clear h1 h7
   go_enter Tryz.func124,Tryz.ntmps124
   go_wp2_with fail
   go_ret
   exact ⟨rfl,uh HB _⟩
theorem celems_any (T:Ten) (A:TA) (w:World) (h:TenSm T):Calls Tryz.prog 125 #[tenV T A] w fun e w' => e = .returned (.int .i64 (elemsN T)) ∧ Below w.heap.size w w':=by
 obtain ⟨ty,ds,fs,is,bs⟩:=T
 obtain ⟨pd,cd,pf,cf,pi,ci,pb,cb⟩:=A
 obtain ⟨h1,h2,h3,h4⟩:=h
 simp only at h1 h2 h3 h4
 unfold tenV tenCells elemsN
 simp only
 have HB:=hide (fun o => al1p w o)
 go_enter Tryz.func125,Tryz.ntmps125
 go_wp2_with fail
 go_ret
 exact ⟨rfl,uh HB _⟩
theorem count_cases (d:List Int):(countV d).2 = 0 ∨ (countV d).2 = 1 ∨ (countV d).2 = 8:=by
 have hF:∀ (l:List Int) (n:Int),(countF n l).2 = 0 ∨ (countF n l).2 = 8:=fun l => by
  induction l with
  | nil => intro n; exact .inl rfl
  | cons x r ih =>
    intro n
    rw [countF]
    split
    ·exact .inr rfl
    ·split
     ·exact .inr rfl
     ·exact ih _
 unfold countV
 split
 ·exact .inr (.inl rfl)
 ·split
  ·exact .inr (.inr rfl)
  ·split
   ·exact .inl rfl
   ·rcases hF d 1 with h | h
    ·exact .inl h
    ·exact .inr (.inr h)
theorem ctenMay_any (T:Ten) (A:TA) (w:World) (h:TenIn w T A) (hs:TenSm T) :
  Calls Tryz.prog 91 #[tenV T A] w fun e w' => e = .returned (.bool (mayT T)) ∧ Below w.heap.size w w':=by
 obtain ⟨ty,ds,fs,is,bs⟩:=T
 obtain ⟨pd,cd,pf,cf,pi,ci,pb,cb⟩:=A
 have C1:=hide (fun v (hv:Below w.heap.size w v) => ccount_any pd cd ds v (h.2.1.below hv))
 have C2:=hide (fun v => cwidth_any ty v)
 have C3:=hide (fun v => cown_any (ty,ds,fs,is,bs) ⟨pd,cd,pf,cf,pi,ci,pb,cb⟩ v)
 have C4:=hide (fun v => celems_any (ty,ds,fs,is,bs) ⟨pd,cd,pf,cf,pi,ci,pb,cb⟩ v hs)
 obtain ⟨R,hR⟩:∃ R,mayT (ty,ds,fs,is,bs) = R:=⟨_,rfl⟩
 have HR:Hid (R = (!(widthV ty == 0) && ((countV ds).2 != 1 && ((countV ds).2 != 0 || (ownN (ty,ds,fs,is,bs) == (countV ds).1 && elemsN (ty,ds,fs,is,bs) == (countV ds).1))))):=hide (by rw [← hR,width_knownB,Bool.not_not]; rfl)
 rw [hR]
 clear hR h hs
 generalize widthV ty = WD at C2 HR
 generalize countV ds = C at C1 HR
 obtain ⟨N,E⟩:=C
 simp only at C1 HR
 generalize ownN (ty,ds,fs,is,bs) = ON at C3 HR
 generalize elemsN (ty,ds,fs,is,bs) = EN at C4 HR
 unfold tenV tenCells at C3 C4 ⊢
 simp only at C3 C4 ⊢
 go_enter Tryz.func91,Tryz.ntmps91
 go_wp2_with fail
 refine (uh C1 _ (al1p _ _)).mono ?_
 rintro e v ⟨rfl,hv⟩
 replace hv:=hv.symm
 subst hv
 go_wp2_with fail
 refine (uh C2 _).mono ?_
 rintro e v ⟨rfl,hv⟩
 replace hv:=hv.symm
 subst hv
 by_cases c1:WD = 0
 ·have t1:(WD == 0) = true:=by simp [c1]
  have HE:Hid (false = R):=hide (by rw [uh HR,t1]; rfl)
  clear HR c1
  go_wp2_with fail
  go_ret
  exact ⟨ret_bool (uh HE),al1p _ _⟩
 ·have t1:(WD == 0) = false:=by simp [c1]
  by_cases c2:E = 1
  ·have t2:(E == 1) = true:=by simp [c2]
   have HE:Hid (false = R):=hide (by rw [uh HR,c2]; simp)
   clear HR c1 c2
   go_wp2_with fail
   go_ret
   exact ⟨ret_bool (uh HE),al1p _ _⟩
  ·have t2:(E == 1) = false:=by simp [c2]
   by_cases c3:E = 0
   ·have t3:(E != 0) = false:=by simp [c3]
    by_cases c4:ON = N
    ·have t4:(ON == N) = true:=by simp [c4]
     have HE:Hid ((EN == N) = R):=hide (by rw [uh HR,t1,c3,t4]; simp)
     clear HR c1 c2 c3 c4
     go_wp2_with fail
     refine (uh C3 _).mono ?_
     rintro e v ⟨rfl,hv⟩
     have B1:=hide (bl_tr (al1p w (Obj.cells #[.int .i64 ty,.slice pd ds.length cd,.slice pf fs.length cf,.slice pi is.length ci,.slice pb bs.length cb] 47)) hv)
     have x1:=(Box.below (Box.new w #[.int .i64 ty,.slice pd ds.length cd,.slice pf fs.length cf,.slice pi is.length ci,.slice pb bs.length cb] 47) hv).cell
     clear hv
     go_wp2_with fail
     refine (uh C4 _).mono ?_
     rintro e v2 ⟨rfl,hv⟩
     have B2:=hide (bl_tr (uh B1) hv)
     clear hv
     go_wp2_with fail
     go_ret
     exact ⟨ret_bool (uh HE),uh B2⟩
    ·have t4:(ON == N) = false:=by simp [c4]
     have HE:Hid (false = R):=hide (by rw [uh HR,t1,c3,t4]; simp)
     clear HR c1 c2 c3 c4
     go_wp2_with fail
     refine (uh C3 _).mono ?_
     rintro e v ⟨rfl,hv⟩
     have B1:=hide (bl_tr (al1p w (Obj.cells #[.int .i64 ty,.slice pd ds.length cd,.slice pf fs.length cf,.slice pi is.length ci,.slice pb bs.length cb] 47)) hv)
     clear hv
     go_wp2_with fail
     go_ret
     exact ⟨ret_bool (uh HE),uh B1⟩
   ·have t3:(E != 0) = true:=by simp [c3]
    have HE:Hid (true = R):=hide (by rw [uh HR,t1,t3]; simp [c2])
    clear HR c1 c2 c3
    go_wp2_with fail
    go_ret
    exact ⟨ret_bool (uh HE),al1p _ _⟩
def mayV (v:ValD):Bool:=knownB v.2.1 && (countV v.2.2).2 != 1
theorem cvalMay_any (a:VaA) {B:Nat} (w:World) (h:VaIn B w a) :
  Calls Tryz.prog 93 #[.agg (vaCells a).toArray] w fun e w' => e = .returned (.bool (mayV a.d)) ∧ Below w.heap.size w w':=by
 obtain ⟨nm,ty,ds,q,c⟩:=a
 have C1:=hide (fun v (hv:Below w.heap.size w v) => ccount_any q c ds v (h.2.2.1.below hv))
 have C2:=hide (fun v => cwidth_any ty v)
 obtain ⟨R,hR⟩:∃ R,mayV (VaA.d ⟨nm,ty,ds,q,c⟩) = R:=⟨_,rfl⟩
 have HR:Hid (R = (!(widthV ty == 0) && (countV ds).2 != 1)):=hide (by rw [← hR,width_knownB,Bool.not_not]; rfl)
 have hw0:0 ≤ widthV ty:=by unfold widthV; split <;> (try split) <;> (try split) <;> omega
 rw [hR]
 clear hR h
 generalize widthV ty = WD at C2 HR hw0
 generalize countV ds = C at C1 HR
 obtain ⟨N,E⟩:=C
 simp only at C1 HR
 unfold vaCells strV
 simp only
 go_enter Tryz.func93,Tryz.ntmps93
 go_wp2_with fail
 refine (uh C1 _ (al1p _ _)).mono ?_
 rintro e v ⟨rfl,hv⟩
 replace hv:=hv.symm
 subst hv
 go_wp2_with fail
 refine (uh C2 _).mono ?_
 rintro e v ⟨rfl,hv⟩
 replace hv:=hv.symm
 subst hv
 by_cases c1:WD = 0
 ·have t1:¬ 0 < WD:=by omega
  have HE:Hid (false = R):=hide (by rw [uh HR,c1]; rfl)
  clear HR c1
  go_wp2_with fail
  go_ret
  exact ⟨ret_bool (uh HE),al1p _ _⟩
 ·have t1:0 < WD:=by omega
  have HE:Hid ((E != 1) = R):=hide (by rw [uh HR]; simp [c1])
  clear HR c1
  go_wp2_with fail
  go_ret
  exact ⟨ret_bool (uh HE),al1p _ _⟩
def muchD (d:List Int):Bool:=(countV d).2 == 8
theorem cdimsMuch_any (p:Option Addr) (c:Nat) (ds:List Int) (w:World) (h:Ints .i64 w p c ds) :
  Calls Tryz.prog 132 #[.slice p ds.length c] w fun e w' => e = .returned (.bool (muchD ds)) ∧ w' = w:=by
 have C1:=hide (ccount_any p c ds w h)
 unfold muchD
 generalize countV ds = C at C1 ⊢
 obtain ⟨N,E⟩:=C
 simp only at C1 ⊢
 clear h
 go_enter Tryz.func132,Tryz.ntmps132
 go_wp2_with fail
 refine (uh C1).mono ?_
 rintro e v ⟨rfl,hv⟩
 replace hv:=hv.symm
 subst hv
 go_wp2_with fail
 go_ret
 exact ⟨rfl,rfl⟩
def muchN (s:Str):Bool:=decide ((256:Int) < s.length)
theorem cnameMuch_any (s:Str) (w:World):Calls Tryz.prog 94 #[strV s] w fun e w' => e = .returned (.bool (muchN s)) ∧ w' = w:=by
 unfold muchN strV
 have hl:=str_len s
 go_enter Tryz.func94,Tryz.ntmps94
 go_wp2_with fail
 go_ret
 exact ⟨rfl,rfl⟩
def kindB (k:Int):Bool:=k == 1 || k == 2 || k == 3 || k == 4 || k == 6 || k == 7
def zeroR (x:AttrD):Bool :=
 (x.2.1 == 1 || x.2.2.1 == 0) && ((x.2.1 == 2 || x.2.2.2.1 == 0) && ((x.2.1 == 3 || decide (x.2.2.2.2.1 = [])) && ((x.2.1 == 4 || emptyT x.2.2.2.2.2.1) && ((x.2.1 == 6 || decide (x.2.2.2.2.2.2.1.length = 0)) && (x.2.1 == 7 || decide (x.2.2.2.2.2.2.2.length = 0))))))
def mayA (x:AttrD):Bool:=(if x.2.1 = 4 then mayT x.2.2.2.2.2.1 else kindB x.2.1) && zeroR x
def muchA (x:AttrD):Bool:=muchN x.1 || (decide ((4096:Int) < x.2.2.2.2.1.length) || (muchD x.2.2.2.2.2.1.2.1 || (decide ((4096:Int) < x.2.2.2.2.2.2.1.length) || decide ((4096:Int) < x.2.2.2.2.2.2.2.length))))
def mayNo (n:NodeD):Bool:=!decide (n.1 = []) && n.2.2.2.2.all mayA
def muchNo (n:NodeD):Bool:=muchN n.1 || (muchN n.2.1 || (decide ((64:Int) < n.2.2.1.length) || (n.2.2.1.any muchN || (decide ((64:Int) < n.2.2.2.1.length) || (n.2.2.2.1.any muchN || (decide ((64:Int) < n.2.2.2.2.length) || n.2.2.2.2.any muchA))))))
def muchI (x:InitD):Bool:=muchN x.1 || muchD x.2.2.1
def muchV (v:ValD):Bool:=muchN v.1 || muchD v.2.2
def mayM (m:ModelD):Bool:=m.1 == 17 && (m.2.2.1.all mayNo && (m.2.2.2.1.all (fun x => mayT x.2) && (m.2.2.2.2.1.all mayV && m.2.2.2.2.2.all mayV)))
def muchM (m:ModelD):Bool:=muchN m.2.1 || (decide ((1024:Int) < m.2.2.1.length) || (m.2.2.1.any muchNo || (decide ((1024:Int) < m.2.2.2.1.length) || (m.2.2.2.1.any muchI || (decide ((64:Int) < m.2.2.2.2.1.length) || (m.2.2.2.2.1.any muchV || (decide ((64:Int) < m.2.2.2.2.2.length) || m.2.2.2.2.2.any muchV)))))))
theorem fAll_1:∀ l:List F3,(fAll l).1 = l.any (·.1)
 | [] => rfl
 | x :: r => by rw [fAll_cons,List.any_cons,← fAll_1 r]; rfl
theorem fAll_3:∀ l:List F3,(fAll l).2.2 = l.any (·.2.2)
 | [] => rfl
 | x :: r => by rw [fAll_cons,List.any_cons,← fAll_3 r]; rfl
theorem muchN_W (s:Str):(longW s).2.2 = muchN s:=by
 unfold longW muchN big3
 simp only
 rw [decide_eq_decide]; omega
theorem mayV_W (v:ValD):mayV v = !(valW v).1:=by
 unfold valW mayV
 rw [fAll_1]
 simp only [List.any_cons,List.any_nil,longW,big3,bad3,dimsW,f3,Bool.or_false,Bool.false_or,Bool.not_or,Bool.not_not]
 rfl
theorem muchV_W (v:ValD):muchV v = (valW v).2.2:=by
 unfold valW muchV
 rw [fAll_3]
 simp only [List.any_cons,List.any_nil,muchN_W,big3,bad3,dimsW,f3,Bool.or_false,Bool.false_or]
 rfl
theorem count_nil7:countV [] = (1,0):=by decide
theorem nil_of0 {α:Type} {l:List α} (h:l.length = 0):l = []:=List.eq_nil_of_length_eq_zero h
theorem emptyT_dims {t:TenD} (h:emptyT t = true):t.2.1 = []:=by
 unfold emptyT at h
 simp only [Bool.and_eq_true,beq_iff_eq] at h
 exact nil_of0 (by omega)
theorem tensW_3 {t:TenD} (h:mayT t = true):(tensW t).2.2 = muchD t.2.1:=by
 unfold mayT at h
 have hk:knownB t.1 = true:=by revert h; cases knownB t.1 <;> simp
 unfold tensW
 rw [if_neg (by rw [hk]; decide)]
 simp only [f3,dimsW,bad3,big3,Bool.or_false,Bool.false_or]
 rfl
theorem mayA_W (x:AttrD):mayA x = !(attrW x).1:=by
 obtain ⟨nm,k,f,i,s,T,fl,is⟩:=x
 unfold attrW mayA zeroR
 rw [fAll_1]
 simp only [List.any_cons,List.any_nil,longW,big3,bad3,Bool.or_false,Bool.false_or]
 have e1:decide (s ≠ []) = !decide (s = []):=by simp
 have e2:decide (0 < fl.length) = !decide (fl.length = 0):=by rw [← decide_not,decide_eq_decide]; omega
 have e3:decide (0 < is.length) = !decide (is.length = 0):=by rw [← decide_not,decide_eq_decide]; omega
 rw [e1,e2,e3]
 generalize decide (s = []) = S
 generalize decide (fl.length = 0) = FL
 generalize decide (is.length = 0) = IS
 generalize emptyT T = ET
 have hm:=mayT_W T
 generalize mayT T = MT at hm
 generalize (tensW T) = TW at hm
 obtain ⟨TW,TW2,TW3⟩:=TW
 simp only at hm
 have hm2:TW = !MT:=by rw [hm,Bool.not_not]
 subst hm2
 clear hm
 have f1:(f != 0) = !(f == 0):=rfl
 have i1:(i != 0) = !(i == 0):=rfl
 rw [f1,i1]
 generalize (f == 0) = F0
 generalize (i == 0) = I0
 unfold kindB
 by_cases h1:k = 1
 ·subst h1; cases F0 <;> cases I0 <;> cases S <;> cases FL <;> cases IS <;> cases ET <;> rfl
 ·by_cases h2:k = 2
  ·subst h2; cases F0 <;> cases I0 <;> cases S <;> cases FL <;> cases IS <;> cases ET <;> rfl
  ·by_cases h3:k = 3
   ·subst h3; cases F0 <;> cases I0 <;> cases S <;> cases FL <;> cases IS <;> cases ET <;> rfl
   ·by_cases h4:k = 4
    ·subst h4; cases F0 <;> cases I0 <;> cases S <;> cases FL <;> cases IS <;> cases ET <;> cases MT <;> rfl
    ·by_cases h6:k = 6
     ·subst h6; cases F0 <;> cases I0 <;> cases S <;> cases FL <;> cases IS <;> cases ET <;> rfl
     ·by_cases h7:k = 7
      ·subst h7; cases F0 <;> cases I0 <;> cases S <;> cases FL <;> cases IS <;> cases ET <;> rfl
      ·rw [if_neg h4,if_neg (by omega),if_neg h4]
       simp [h1,h2,h3,h4,h6,h7]
theorem muchA_W {x:AttrD} (h:mayA x = true):muchA x = (attrW x).2.2:=by
 obtain ⟨nm,k,f,i,s,T,fl,is⟩:=x
 have hk:(if k = 1 ∨ k = 2 ∨ k = 3 ∨ k = 6 ∨ k = 7 then no3 else if k = 4 then tensW T else bad3 true).2.2 = muchD T.2.1:=by
  unfold mayA at h
  simp only [Bool.and_eq_true] at h
  obtain ⟨h1,h2⟩:=h
  by_cases h4:k = 4
  ·subst h4
   rw [if_pos rfl] at h1
   rw [if_neg (by decide),if_pos rfl]
   exact tensW_3 h1
  ·rw [if_neg h4] at h1 ⊢
   unfold zeroR at h2
   simp only [Bool.and_eq_true] at h2
   have h3:emptyT T = true:=by
    have:=h2.2.2.2.1
    simpa [h4] using this
   rw [show muchD T.2.1 = false by rw [emptyT_dims h3]; unfold muchD; rw [count_nil7]; rfl]
   split
   ·rfl
   ·rfl
 unfold attrW muchA
 rw [fAll_3]
 simp only [List.any_cons,List.any_nil,muchN_W,big3,bad3,Bool.or_false,Bool.false_or]
 rw [show (true,false,false) = bad3 true from rfl,hk]
 have e:decide (4096 < s.length ∨ 4096 < fl.length ∨ 4096 < is.length) = (decide ((4096:Int) < s.length) || (decide ((4096:Int) < fl.length) || decide ((4096:Int) < is.length))):=by
  rw [Bool.eq_iff_iff]; simp; omega
 rw [e]
 generalize decide ((4096:Int) < s.length) = a
 generalize decide ((4096:Int) < fl.length) = b
 generalize decide ((4096:Int) < is.length) = c
 generalize muchD T.2.1 = d
 generalize muchN nm = g
 cases a <;> cases b <;> cases c <;> cases d <;> cases g <;> rfl
theorem any_map7 {α β:Type} (f:α → β) (P:β → Bool) (l:List α):(l.map f).any P = l.any (fun x => P (f x)):=by
 induction l with
 | nil => rfl
 | cons a r ih => rw [List.map_cons,List.any_cons,List.any_cons,ih]
theorem any_congr7 {α:Type} {P Q:α → Bool} {l:List α} (h:∀ x ∈ l,P x = Q x):l.any P = l.any Q:=by
 induction l with
 | nil => rfl
 | cons a r ih => rw [List.any_cons,List.any_cons,h a (by simp),ih (fun x hx => h x (by simp [hx]))]
theorem all_not7 {α:Type} (P:α → Bool) (l:List α):l.all P = !l.any (fun x => !P x):=by
 induction l with
 | nil => rfl
 | cons a r ih => rw [List.all_cons,List.any_cons,ih,Bool.not_or,Bool.not_not]
theorem any_false7 {α:Type} (l:List α):(l.any fun _ => false) = false:=by
 induction l with
 | nil => rfl
 | cons a r ih => rw [List.any_cons,ih]; rfl
theorem mayNo_W (n:NodeD):mayNo n = !(nodeW n).1:=by
 unfold nodeW mayNo
 rw [fAll_1]
 simp only [List.any_append,List.any_cons,List.any_nil,any_map7,longW,big3,bad3,Bool.or_false,Bool.false_or,any_false7]
 rw [all_not7,Bool.not_or,any_congr7 (fun x _ => show (!mayA x) = (attrW x).1 by rw [mayA_W,Bool.not_not])]
theorem muchNo_W {n:NodeD} (h:mayNo n = true):muchNo n = (nodeW n).2.2:=by
 unfold mayNo at h
 simp only [Bool.and_eq_true,List.all_eq_true] at h
 unfold nodeW muchNo
 rw [fAll_3]
 simp only [List.any_append,List.any_cons,List.any_nil,any_map7,muchN_W,big3,bad3,Bool.or_false,Bool.false_or]
 rw [any_congr7 (fun x hx => muchA_W (h.2 x hx))]
 have e:decide (64 < n.2.2.1.length ∨ 64 < n.2.2.2.1.length ∨ 64 < n.2.2.2.2.length) = (decide ((64:Int) < n.2.2.1.length) || (decide ((64:Int) < n.2.2.2.1.length) || decide ((64:Int) < n.2.2.2.2.length))):=by
  rw [Bool.eq_iff_iff]; simp; omega
 rw [e]
 generalize decide ((64:Int) < n.2.2.1.length) = a
 generalize decide ((64:Int) < n.2.2.2.1.length) = b
 generalize decide ((64:Int) < n.2.2.2.2.length) = c
 generalize muchN n.1 = d
 generalize muchN n.2.1 = e1
 generalize n.2.2.1.any muchN = f
 generalize n.2.2.2.1.any muchN = g
 generalize (n.2.2.2.2.any fun x => (attrW x).2.2) = k
 cases a <;> cases b <;> cases c <;> cases d <;> cases e1 <;> cases f <;> cases g <;> cases k <;> rfl
theorem mayM_W (m:ModelD):mayM m = !(modelW m).1:=by
 unfold modelW mayM valuesW
 rw [fAll_1]
 simp only [List.any_append,List.any_cons,List.any_nil,any_map7,longW,big3,bad3,f3,Bool.or_false,Bool.false_or,fAll_1]
 rw [all_not7,all_not7,all_not7,all_not7,any_congr7 (fun x _ => show (!mayNo x) = (nodeW x).1 by rw [mayNo_W,Bool.not_not]),any_congr7 (fun (x:InitD) _ => show (!mayT x.2) = (tensW x.2).1 by rw [mayT_W,Bool.not_not]),any_congr7 (fun x _ => show (!mayV x) = (valW x).1 by rw [mayV_W,Bool.not_not]),any_congr7 (fun x _ => show (!mayV x) = (valW x).1 by rw [mayV_W,Bool.not_not])]
 have e:(m.1 != 17) = !(m.1 == 17):=rfl
 rw [e]
 generalize (m.1 == 17) = a
 generalize (m.2.2.1.any fun x => (nodeW x).1) = b
 generalize (m.2.2.2.1.any fun x => (tensW x.2).1) = c
 generalize (m.2.2.2.2.1.any fun x => (valW x).1) = d
 generalize (m.2.2.2.2.2.any fun x => (valW x).1) = g
 cases a <;> cases b <;> cases c <;> cases d <;> cases g <;> rfl
theorem muchM_W {m:ModelD} (h:mayM m = true):muchM m = (modelW m).2.2:=by
 unfold mayM at h
 simp only [Bool.and_eq_true,List.all_eq_true] at h
 obtain ⟨_,h1,h2,_,_⟩:=h
 unfold modelW muchM valuesW
 rw [fAll_3]
 simp only [List.any_append,List.any_cons,List.any_nil,any_map7,muchN_W,big3,bad3,f3,Bool.or_false,Bool.false_or,fAll_3]
 rw [any_congr7 (fun x hx => muchNo_W (h1 x hx)),any_congr7 (fun (x:InitD) hx => show muchI x = (muchN x.1 || (tensW x.2).2.2) by rw [tensW_3 (h2 x hx)]; rfl),any_congr7 (fun x _ => muchV_W x),any_congr7 (fun x _ => muchV_W x)]
 have e:decide (1024 < m.2.2.1.length ∨ 1024 < m.2.2.2.1.length) = (decide ((1024:Int) < m.2.2.1.length) || decide ((1024:Int) < m.2.2.2.1.length)):=by
  rw [Bool.eq_iff_iff]; simp; omega
 have e1:decide (64 < m.2.2.2.2.1.length) = decide ((64:Int) < m.2.2.2.2.1.length):=by rw [decide_eq_decide]; omega
 have e2:decide (64 < m.2.2.2.2.2.length) = decide ((64:Int) < m.2.2.2.2.2.length):=by rw [decide_eq_decide]; omega
 rw [e,e1,e2]
 generalize decide ((1024:Int) < m.2.2.1.length) = a
 generalize decide ((1024:Int) < m.2.2.2.1.length) = b
 generalize decide ((64:Int) < m.2.2.2.2.1.length) = c
 generalize decide ((64:Int) < m.2.2.2.2.2.length) = d
 generalize muchN m.2.1 = g
 generalize (m.2.2.1.any fun x => (nodeW x).2.2) = k
 generalize (m.2.2.2.1.any fun x => (muchN x.1 || (tensW x.2).2.2)) = n
 generalize (m.2.2.2.2.1.any fun x => (valW x).2.2) = p
 generalize (m.2.2.2.2.2.any fun x => (valW x).2.2) = q
 cases a <;> cases b <;> cases c <;> cases d <;> cases g <;> cases k <;> cases n <;> cases p <;> cases q <;> rfl
theorem check_code (m:ModelD):(if mayM m = false then 1 else if muchM m = true then 8 else 0) = checkM m:=by
 unfold checkM
 have h:=mayM_W m
 by_cases hm:mayM m = true
 ·have h1:(modelW m).1 = false:=by rw [hm] at h; revert h; cases (modelW m).1 <;> simp
  rw [muchM_W hm,h1,hm]
  rfl
 ·have h0:mayM m = false:=by simpa using hm
  have h1:(modelW m).1 = true:=by rw [h0] at h; revert h; cases (modelW m).1 <;> simp
  rw [h0,h1]
  rfl
end Go.Proofs.YtbmmcbagdomonaaGreat
