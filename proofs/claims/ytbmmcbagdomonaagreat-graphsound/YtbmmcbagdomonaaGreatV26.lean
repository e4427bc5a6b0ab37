import Derived.Test.YtbmmcbagdomonaaGreatV25
set_option maxRecDepth 100000
set_option maxHeartbeats 40000000
namespace Go.Proofs.YtbmmcbagdomonaaGreat
open Go.RowKit
set_option linter.unusedVariables false
set_option linter.unusedSimpArgs false
def beyB (lo hi x:Int):Bool:=decide (x < lo) || decide (hi < x)
def holdB (b:Int × Int × Int × Int) (kd i:Int) (nf:Nat) (is:List Int):Bool :=
 if kd = b.1 then (if kd = 2 then !(beyB b.2.1 b.2.2.1 i) else if kd = 6 then decide ((nf:Int) ≤ b.2.2.2) else if kd = 7 then decide ((is.length:Int) ≤ b.2.2.2) && !(is.any (beyB b.2.1 b.2.2.1)) else true) else false
theorem cbey_any (b0 lo hi b3 x:Int) (g:Nat) (w:World) (hg:g < w.heap.size) (c1:w.cell? ⟨g,1,none⟩ = some (.int .i64 lo)) (c2:w.cell? ⟨g,2,none⟩ = some (.int .i64 hi)) :
  Calls Tryz.prog 175 (#[.int .i64 x] ++ #[.pointer (some ⟨g,0,none⟩)]) w fun e w' => e = .returned (.bool (beyB lo hi x)) ∧ Below w.heap.size w w':=by
 rw [show (#[Value.int .i64 x] ++ #[Value.pointer (some ⟨g,0,none⟩)]) = #[Value.int .i64 x,Value.pointer (some ⟨g,0,none⟩)] from rfl]
 by_cases h1:x < lo
 ·have e:beyB lo hi x = true:=by unfold beyB; simp [h1]
  rw [e]
  go_enter Tryz.func175,Tryz.ntmps175
  go_wp2_with fail
  go_ret
  exact ⟨rfl,Below.refl _ _⟩
 ·have e:beyB lo hi x = decide (hi < x):=by unfold beyB; simp [h1]
  rw [e]
  by_cases h2:hi < x
  ·rw [decide_eq_true h2]
   go_enter Tryz.func175,Tryz.ntmps175
   go_wp2_with fail
   go_ret
   exact ⟨rfl,Below.refl _ _⟩
  ·rw [decide_eq_false h2]
   go_enter Tryz.func175,Tryz.ntmps175
   go_wp2_with fail
   go_ret
   exact ⟨rfl,Below.refl _ _⟩
theorem cistype_any (x:Int) (w:World):Calls Tryz.prog 164 #[.int .i64 x] w fun e w' => e = .returned (.bool (knownB x)) ∧ w' = w:=by
 unfold knownB
 by_cases h1:x = 1
 ·subst h1
  go_enter Tryz.func164,Tryz.ntmps164
  go_wp2_with fail
  go_ret
  exact ⟨rfl,rfl⟩
 ·have t1:(x == 1) = false:=by simp [h1]
  by_cases h2:x = 7
  ·subst h2
   go_enter Tryz.func164,Tryz.ntmps164
   go_wp2_with fail
   go_ret
   exact ⟨rfl,rfl⟩
  ·have t2:(x == 7) = false:=by simp [h2]
   rw [t1,t2]
   simp only [Bool.false_or]
   obtain ⟨D,hD⟩:∃ D,(x == 9) = D:=⟨_,rfl⟩
   rw [hD]
   go_enter Tryz.func164,Tryz.ntmps164
   go_wp2_with fail
   go_ret
   exact ⟨rfl,rfl⟩
abbrev ChD:=Str × Int
def noChD:ChD:=([],0)
def chCells (a:ChD):List Value:=[strV a.1,.int .i64 a.2]
theorem chWd:Wd 2 chCells:=⟨by decide,fun _ => rfl,fun a u hu => by simp [chCells] at hu; rcases hu with rfl | rfl <;> rfl⟩
def choT (s:Int):List ChD:=if s = 8 then [([110,111,110,101],0),([97,100,100],4),([109,117,108],5)] else if s = 9 then [([99,111,110,115,116,97,110,116],1),([114,101,102,108,101,99,116],2),([101,100,103,101],3)] else if s = 10 then [([68,67,82],6),([67,82,68],7)] else if s = 11 then [([78,79,84,83,69,84],0),([86,65,76,73,68],8),([83,65,77,69,95,85,80,80,69,82],9),([83,65,77,69,95,76,79,87,69,82],10)] else []
theorem ccho_8 (w:World):Calls Tryz.prog 177 #[.int .i64 8] w fun e w' => ∃ p,e = .returned (.slice p 3 3) ∧ Rc 2 chCells noChD w' p 3 (choT 8) ∧ Below w.heap.size w w':=by
 go_enter Tryz.func177,Tryz.ntmps177
 go_wp2_with fail
 go_ret
 exact ⟨_,rfl,rc_box chWd noChD (Box.new w _ _) rfl (Nat.le_of_ble_eq_true rfl),al1p _ _⟩
theorem ccho_9 (w:World):Calls Tryz.prog 177 #[.int .i64 9] w fun e w' => ∃ p,e = .returned (.slice p 3 3) ∧ Rc 2 chCells noChD w' p 3 (choT 9) ∧ Below w.heap.size w w':=by
 go_enter Tryz.func177,Tryz.ntmps177
 go_wp2_with fail
 go_ret
 exact ⟨_,rfl,rc_box chWd noChD (Box.new w _ _) rfl (Nat.le_of_ble_eq_true rfl),al1p _ _⟩
theorem ccho_10 (w:World):Calls Tryz.prog 177 #[.int .i64 10] w fun e w' => ∃ p,e = .returned (.slice p 2 2) ∧ Rc 2 chCells noChD w' p 2 (choT 10) ∧ Below w.heap.size w w':=by
 go_enter Tryz.func177,Tryz.ntmps177
 go_wp2_with fail
 go_ret
 exact ⟨_,rfl,rc_box chWd noChD (Box.new w _ _) rfl (Nat.le_of_ble_eq_true rfl),al1p _ _⟩
theorem ccho_11 (w:World):Calls Tryz.prog 177 #[.int .i64 11] w fun e w' => ∃ p,e = .returned (.slice p 4 4) ∧ Rc 2 chCells noChD w' p 4 (choT 11) ∧ Below w.heap.size w w':=by
 go_enter Tryz.func177,Tryz.ntmps177
 go_wp2_with fail
 go_ret
 exact ⟨_,rfl,rc_box chWd noChD (Box.new w _ _) rfl (Nat.le_of_ble_eq_true rfl),al1p _ _⟩
def modeV (s:Int) (x:Str):Int × Bool :=
 match (choT s).find? (fun c => decide (c.1 = x)) with
 | some c => (c.2,true)
 | none => (0,false)
theorem cho_isB (s:Int):∀ c ∈ choT s,isB c.1:=by
 unfold choT
 intro c hc
 split at hc
 ·simp only [List.mem_cons,List.not_mem_nil,or_false] at hc
  rcases hc with rfl | rfl | rfl <;> exact isB_of rfl
 split at hc
 ·simp only [List.mem_cons,List.not_mem_nil,or_false] at hc
  rcases hc with rfl | rfl | rfl <;> exact isB_of rfl
 split at hc
 ·simp only [List.mem_cons,List.not_mem_nil,or_false] at hc
  rcases hc with rfl | rfl <;> exact isB_of rfl
 split at hc
 ·simp only [List.mem_cons,List.not_mem_nil,or_false] at hc
  rcases hc with rfl | rfl | rfl | rfl <;> exact isB_of rfl
 ·simp at hc
theorem find_take8 {α:Type} (P:α → Bool) (z:α):∀ (l:List α) (n:Nat),n < l.length → (l.take n).any P = false → P (l.getD n z) = true → l.find? P = some (l.getD n z)
 | [],n,h,_,_ => by simp at h
 | x :: r,0,_,_,h => by
   simp only [List.getD_cons_zero] at h ⊢
   rw [List.find?_cons_of_pos h]
 | x :: r,n + 1,h,h1,h2 => by
   simp only [List.take_succ_cons,List.any_cons,Bool.or_eq_false_iff] at h1
   simp only [List.getD_cons_succ] at h2 ⊢
   rw [List.find?_cons_of_neg (by simp [h1.1])]
   exact find_take8 P z r n (by simpa using h) h1.2 h2
theorem find_none8 {α:Type} (P:α → Bool) (l:List α) (h:l.any P = false):l.find? P = none:=by
 rw [List.find?_eq_none]
 intro x hx hp
 rw [List.any_eq_true.2 ⟨x,hx,hp⟩] at h
 cases h
theorem cmode_of (s:Int) (k:Nat) (x:Str) (w:World) (hx:isB x) (hk:(choT s).length = k)
  (HC:∀ v,Calls Tryz.prog 177 #[.int .i64 s] v fun e w' => ∃ p,e = .returned (.slice p k k) ∧ Rc 2 chCells noChD w' p k (choT s) ∧ Below v.heap.size v w') :
  Calls Tryz.prog 165 #[.int .i64 s,strV x] w fun e w' => e = .returned (.tuple #[.int .i64 (modeV s x).1,.bool (modeV s x).2]) ∧ Below w.heap.size w w':=by
 have HI:=hide (cho_isB s)
 have HH:=hide HC
 have HX:=hide hx
 obtain ⟨M,hM⟩:∃ M,modeV s x = M:=⟨_,rfl⟩
 rw [hM]
 have HM:Hid ((match (choT s).find? (fun c => decide (c.1 = x)) with | some c => (c.2,true) | none => (0,false)) = M):=hide hM
 clear HC hM hx
 subst hk
 generalize choT s = l at HI HH HM
 obtain ⟨m1,m2⟩:=M
 simp only
 unfold strV
 go_enter Tryz.func165,Tryz.ntmps165
 go_wp2_with fail
 refine (uh HH _).mono ?_
 rintro e w1 ⟨p,rfl,hR,hb⟩
 have A1:=hide hR
 have B:=hide hb
 have nl:=hR.len
 clear hR hb HH
 go_wp2_with fail
 go_loopw [11] (fun iv wr => ∃ n:Nat,iv = .int .i64 n ∧ n ≤ l.length ∧ Hid ((l.take n).any (fun c => decide (c.1 = x)) = false) ∧ Hid (Below w1.heap.size w1 wr)) (fun iv _ => l.length - (intOf iv).toNat)
 case atStart => exact ⟨0,rfl,by omega,hide rfl,hide (Below.refl _ _)⟩
 case round =>
  obtain ⟨n,rfl,hn,HN,HB⟩:=hrel
  by_cases hlt:n < l.length
  ·have hi:(n:Int) < (l.length:Int):=by omega
   obtain ⟨b,o,rfl,hb,hc⟩:=((uh A1).below (uh HB)).lies (by omega)
   have k0:wr.cell? ⟨b,o + n * 2,none⟩ = some (strV (l.getD n noChD).1):=hc n hlt 0 _ rfl
   have k1:wr.cell? ⟨b,o + n * 2 + 1,none⟩ = some (.int .i64 (l.getD n noChD).2):=hc n hlt 1 _ rfl
   have HT:=hide (any_take7 (fun c:ChD => decide (c.1 = x)) noChD l n hlt)
   have HF:=hide (find_take8 (fun c:ChD => decide (c.1 = x)) noChD l n hlt (uh HN))
   have HE:=hide (str_eq8 (uh HI _ (getD_mem7 (z:=noChD) hlt)) (uh HX))
   generalize l.getD n noChD = a at k0 k1 HT HF HE
   obtain ⟨a1,a2⟩:=a
   simp only at k0 k1 HT HF HE
   unfold strV at k0
   have he:=uh HE
   clear hc
   by_cases hD:a1 = x
   ·clear he HE
    have HM2:Hid (a2 = m1 ∧ true = m2):=hide (by have:=uh HM; rw [uh HF (by simp [hD])] at this; simpa using this)
    clear HM HF HT HN
    subst hD
    go_wp2_with fail
    go_ret2
    exact ⟨by rw [← (uh HM2).1,← (uh HM2).2]; rfl,bl_tr (uh B) (bl_tr (uh HB) (al1p _ _))⟩
   ·rw [decide_eq_false hD] at he
    have HN2:Hid ((l.take (n + 1)).any (fun c => decide (c.1 = x)) = false):=hide (by rw [uh HT,uh HN]; simp [hD])
    clear HF HT HN HE hD
    go_wp2_with fail
    go_roundw
    case rel => exact ⟨n + 1,by go_num,by omega,HN2,hide (bl_tr (uh HB) (al1p _ _))⟩
    case measure => simp [intOf]; omega
  ·have hi:¬ (n:Int) < (l.length:Int):=by omega
   have HE:Hid (l.any (fun c => decide (c.1 = x)) = false):=hide (by have:=uh HN; rw [List.take_of_length_le (by omega)] at this; exact this)
   have HM2:Hid (0 = m1 ∧ false = m2):=hide (by have:=uh HM; rw [find_none8 _ _ (uh HE)] at this; simpa using this)
   clear HN HM HE
   go_wp2_with fail
   go_ret2
   exact ⟨by rw [← (uh HM2).1,← (uh HM2).2]; rfl,bl_tr (uh B) (uh HB)⟩
theorem cmode8_any (s:Int) (x:Str) (w:World) (hx:isB x) (hs:s = 8 ∨ s = 9 ∨ s = 10 ∨ s = 11) :
  Calls Tryz.prog 165 #[.int .i64 s,strV x] w fun e w' => e = .returned (.tuple #[.int .i64 (modeV s x).1,.bool (modeV s x).2]) ∧ Below w.heap.size w w':=by
 rcases hs with rfl | rfl | rfl | rfl
 ·exact cmode_of 8 3 x w hx rfl ccho_8
 ·exact cmode_of 9 3 x w hx rfl ccho_9
 ·exact cmode_of 10 2 x w hx rfl ccho_10
 ·exact cmode_of 11 4 x w hx rfl ccho_11
end Go.Proofs.YtbmmcbagdomonaaGreat
