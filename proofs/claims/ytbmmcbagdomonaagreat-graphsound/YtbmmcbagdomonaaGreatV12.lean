import Derived.Test.YtbmmcbagdomonaaGreatV11
set_option maxRecDepth 100000
set_option maxHeartbeats 40000000
namespace Go.Proofs.YtbmmcbagdomonaaGreat
open Go.RowKit
set_option linter.unusedVariables false
set_option linter.unusedSimpArgs false
def idxI {α:Type} (P:α → Bool):List α → Int
 | [] => -1
 | x :: r => if P x = true then 0 else if idxI P r = -1 then -1 else idxI P r + 1
theorem idxI_ge {α:Type} (P:α → Bool):∀ l:List α,-1 ≤ idxI P l
 | [] => by simp [idxI]
 | x :: r => by
   have:=idxI_ge P r
   unfold idxI
   split
   ·omega
   ·split <;> omega
theorem idxI_none {α:Type} (P:α → Bool):∀ l:List α,l.any P = false → idxI P l = -1
 | [],_ => rfl
 | x :: r,h => by
   simp only [List.any_cons,Bool.or_eq_false_iff] at h
   unfold idxI
   rw [idxI_none P r h.2]
   simp [h.1]
theorem idxI_found {α:Type} (P:α → Bool) (z:α):∀ (l:List α) (n:Nat),n < l.length → (l.take n).any P = false → P (l.getD n z) = true → idxI P l = n
 | [],n,h,_,_ => by simp at h
 | x :: r,0,_,_,h => by
   simp only [List.getD_cons_zero] at h
   unfold idxI
   rw [if_pos h]; rfl
 | x :: r,n + 1,h,h1,h2 => by
   simp only [List.take_succ_cons,List.any_cons,Bool.or_eq_false_iff] at h1
   simp only [List.getD_cons_succ] at h2
   have:=idxI_found P z r n (by simpa using h) h1.2 h2
   unfold idxI
   rw [this,if_neg (by simp [h1.1]),if_neg (by omega)]
   omega
theorem idxI_lt {α:Type} (P:α → Bool) (z:α):∀ l:List α,0 ≤ idxI P l → ∃ n:Nat,idxI P l = n ∧ n < l.length ∧ P (l.getD n z) = true ∧ (l.take n).any P = false
 | [],h => by simp [idxI] at h
 | x :: r,h => by
   unfold idxI at h ⊢
   by_cases hx:P x = true
   ·rw [if_pos hx]
    exact ⟨0,rfl,by simp,by simpa using hx,rfl⟩
   ·rw [if_neg hx] at h ⊢
    by_cases hr:idxI P r = -1
    ·rw [if_pos hr] at h; omega
    ·rw [if_neg hr] at h ⊢
     have:=idxI_ge P r
     obtain ⟨n,e,h1,h2,h3⟩:=idxI_lt P z r (by omega)
     refine ⟨n + 1,by omega,by simpa using h1,by simpa using h2,?_⟩
     simp only [List.take_succ_cons,List.any_cons,h3,Bool.or_false]
     simpa using hx
theorem idxI_no {α:Type} (P:α → Bool):∀ l:List α,idxI P l = -1 → l.any P = false
 | [],_ => rfl
 | x :: r,h => by
   have:=idxI_ge P r
   unfold idxI at h
   by_cases hx:P x = true
   ·rw [if_pos hx] at h; omega
   ·rw [if_neg hx] at h
    by_cases hr:idxI P r = -1
    ·simp only [List.any_cons,idxI_no P r hr,Bool.or_false]; simpa using hx
    ·rw [if_neg hr] at h; omega
theorem ret_int8 {k:IntKind} {a b:Int} (h:a = b):Ending.returned (.int k a) = .returned (.int k b):=by rw [h]
theorem cidxRow_any (K:FuncId) (hK:Ent K) (caps:Array Value) (P:RoA → Bool) (p:Option Addr) (c:Nat) (l:List RoA) (w:World) (h:Rc 6 roCells noRoA w p c l)
  (H:∀ v,Below w.heap.size w v → ∀ x ∈ l,Calls Tryz.prog K (#[.agg (roCells x).toArray] ++ caps) v fun e w' => e = .returned (.bool (P x)) ∧ Below v.heap.size v w') :
  Calls Tryz.prog 134 #[.slice p l.length c,.func (.func K) #[] caps] w fun e w' => e = .returned (.int .i64 (idxI P l)) ∧ Below w.heap.size w w':=by
 have hk:∀ (args:Array Value) (v:World),(callFunc K args).run Tryz.prog v = .ok (.enter K args) v:=hK
 have A1:=hide h
 have HH:=hide H
 have IF:=hide (idxI_found P noRoA l)
 have IN:=hide (idxI_none P l)
 clear hK
 have nl:=h.len
 clear h H
 generalize idxI P l = I at IF IN ⊢
 go_enter Tryz.func134,Tryz.ntmps134
 go_wp2_with fail
 go_loopw [8] (fun iv wr => ∃ n:Nat,iv = .int .i64 n ∧ n ≤ l.length ∧ Hid ((l.take n).any P = false) ∧ Hid (Below w.heap.size w wr)) (fun iv _ => l.length - (intOf iv).toNat)
 case atStart => exact ⟨0,rfl,by omega,hide rfl,hide (Below.refl _ _)⟩
 case round =>
  obtain ⟨n,rfl,hn,HN,HB⟩:=hrel
  by_cases hlt:n < l.length
  ·have hi:(n:Int) < (l.length:Int):=by omega
   obtain ⟨b,o,rfl,hb,hc⟩:=((uh A1).below (uh HB)).lies (by omega)
   have k0:wr.cell? ⟨b,o + n * 6,none⟩ = some (strV (l.getD n noRoA).nm):=hc n hlt 0 _ rfl
   have k1:wr.cell? ⟨b,o + n * 6 + 1,none⟩ = some (.int .i64 (l.getD n noRoA).a):=hc n hlt 1 _ rfl
   have k2:wr.cell? ⟨b,o + n * 6 + 2,none⟩ = some (.int .i64 (l.getD n noRoA).b):=hc n hlt 2 _ rfl
   have k3:wr.cell? ⟨b,o + n * 6 + 3,none⟩ = some (.int .i64 (l.getD n noRoA).c):=hc n hlt 3 _ rfl
   have k4:wr.cell? ⟨b,o + n * 6 + 4,none⟩ = some (.int .i64 (l.getD n noRoA).d'):=hc n hlt 4 _ rfl
   have k5:wr.cell? ⟨b,o + n * 6 + 5,none⟩ = some (.slice (l.getD n noRoA).q (l.getD n noRoA).ats.length (l.getD n noRoA).k):=hc n hlt 5 _ rfl
   have HX:=hide (fun v (hv:Below wr.heap.size wr v) => uh HH v (bl_tr (uh HB) hv) (l.getD n noRoA) (getD_mem7 hlt))
   have HT:=hide (any_take7 P noRoA l n hlt)
   have HM:=hide (uh IF n hlt (uh HN))
   generalize P (l.getD n noRoA) = D at HX HT HM
   generalize l.getD n noRoA = a at k0 k1 k2 k3 k4 k5 HX
   unfold roCells strV at HX
   unfold strV at *
   clear hc
   cases D
   ·have HN2:Hid ((l.take (n + 1)).any P = false):=hide (by rw [uh HT,uh HN]; rfl)
    clear HT HM HN
    go_wp2_with fail
    refine (uh HX _ (Below.refl _ _)).mono ?_
    rintro e w1 ⟨rfl,hb1⟩
    have BB:=hide (bl_tr (uh HB) hb1)
    clear hb1
    go_wp2_with fail
    go_roundw
    case rel => exact ⟨n + 1,by go_num,by omega,HN2,BB⟩
    case measure => simp [intOf]; omega
   ·have HE:=hide (uh HM rfl)
    clear HT HM HN
    go_wp2_with fail
    refine (uh HX _ (Below.refl _ _)).mono ?_
    rintro e w1 ⟨rfl,hb1⟩
    have BB:=hide (bl_tr (uh HB) hb1)
    clear hb1
    go_wp2_with fail
    go_ret
    exact ⟨ret_int8 (uh HE).symm,uh BB⟩
  ·have hi:¬ (n:Int) < (l.length:Int):=by omega
   have HE:Hid (I = -1):=hide (uh IN (by have:=uh HN; rw [List.take_of_length_le (by omega)] at this; exact this))
   clear HN
   go_wp2_with fail
   go_ret
   exact ⟨ret_int8 (uh HE).symm,uh HB⟩
theorem cidxAtd_any (K:FuncId) (hK:Ent K) (caps:Array Value) (P:AtD → Bool) (p:Option Addr) (c:Nat) (l:List AtD) (w:World) (h:Rc 4 adCells noAtD w p c l)
  (H:∀ v,Below w.heap.size w v → ∀ x ∈ l,Calls Tryz.prog K (#[.agg (adCells x).toArray] ++ caps) v fun e w' => e = .returned (.bool (P x)) ∧ Below v.heap.size v w') :
  Calls Tryz.prog 139 #[.slice p l.length c,.func (.func K) #[] caps] w fun e w' => e = .returned (.int .i64 (idxI P l)) ∧ Below w.heap.size w w':=by
 have hk:∀ (args:Array Value) (v:World),(callFunc K args).run Tryz.prog v = .ok (.enter K args) v:=hK
 have A1:=hide h
 have HH:=hide H
 have IF:=hide (idxI_found P noAtD l)
 have IN:=hide (idxI_none P l)
 clear hK
 have nl:=h.len
 clear h H
 generalize idxI P l = I at IF IN ⊢
 go_enter Tryz.func139,Tryz.ntmps139
 go_wp2_with fail
 go_loopw [8] (fun iv wr => ∃ n:Nat,iv = .int .i64 n ∧ n ≤ l.length ∧ Hid ((l.take n).any P = false) ∧ Hid (Below w.heap.size w wr)) (fun iv _ => l.length - (intOf iv).toNat)
 case atStart => exact ⟨0,rfl,by omega,hide rfl,hide (Below.refl _ _)⟩
 case round =>
  obtain ⟨n,rfl,hn,HN,HB⟩:=hrel
  by_cases hlt:n < l.length
  ·have hi:(n:Int) < (l.length:Int):=by omega
   obtain ⟨b,o,rfl,hb,hc⟩:=((uh A1).below (uh HB)).lies (by omega)
   have k0:wr.cell? ⟨b,o + n * 4,none⟩ = some (strV (l.getD n noAtD).1):=hc n hlt 0 _ rfl
   have k1:wr.cell? ⟨b,o + n * 4 + 1,none⟩ = some (.int .i64 (l.getD n noAtD).2.1):=hc n hlt 1 _ rfl
   have k2:wr.cell? ⟨b,o + n * 4 + 2,none⟩ = some (.int .i64 (l.getD n noAtD).2.2.1):=hc n hlt 2 _ rfl
   have k3:wr.cell? ⟨b,o + n * 4 + 3,none⟩ = some (.int .i64 (l.getD n noAtD).2.2.2):=hc n hlt 3 _ rfl
   have HX:=hide (fun v (hv:Below wr.heap.size wr v) => uh HH v (bl_tr (uh HB) hv) (l.getD n noAtD) (getD_mem7 hlt))
   have HT:=hide (any_take7 P noAtD l n hlt)
   have HM:=hide (uh IF n hlt (uh HN))
   generalize P (l.getD n noAtD) = D at HX HT HM
   generalize l.getD n noAtD = a at k0 k1 k2 k3 HX
   unfold adCells strV at HX
   unfold strV at *
   clear hc
   cases D
   ·have HN2:Hid ((l.take (n + 1)).any P = false):=hide (by rw [uh HT,uh HN]; rfl)
    clear HT HM HN
    go_wp2_with fail
    refine (uh HX _ (Below.refl _ _)).mono ?_
    rintro e w1 ⟨rfl,hb1⟩
    have BB:=hide (bl_tr (uh HB) hb1)
    clear hb1
    go_wp2_with fail
    go_roundw
    case rel => exact ⟨n + 1,by go_num,by omega,HN2,BB⟩
    case measure => simp [intOf]; omega
   ·have HE:=hide (uh HM rfl)
    clear HT HM HN
    go_wp2_with fail
    refine (uh HX _ (Below.refl _ _)).mono ?_
    rintro e w1 ⟨rfl,hb1⟩
    have BB:=hide (bl_tr (uh HB) hb1)
    clear hb1
    go_wp2_with fail
    go_ret
    exact ⟨ret_int8 (uh HE).symm,uh BB⟩
  ·have hi:¬ (n:Int) < (l.length:Int):=by omega
   have HE:Hid (I = -1):=hide (uh IN (by have:=uh HN; rw [List.take_of_length_le (by omega)] at this; exact this))
   clear HN
   go_wp2_with fail
   go_ret
   exact ⟨ret_int8 (uh HE).symm,uh HB⟩
theorem cidxI64_any (K:FuncId) (hK:Ent K) (caps:Array Value) (P:Int → Bool) (p:Option Addr) (c:Nat) (l:List Int) (w:World) (h:Ints .i64 w p c l)
  (H:∀ v,Below w.heap.size w v → ∀ x ∈ l,Calls Tryz.prog K (#[.int .i64 x] ++ caps) v fun e w' => e = .returned (.bool (P x)) ∧ Below v.heap.size v w') :
  Calls Tryz.prog 182 #[.slice p l.length c,.func (.func K) #[] caps] w fun e w' => (∃ r:Int,e = .returned (.int .i64 r) ∧ decide (0 ≤ r) = l.any P) ∧ Below w.heap.size w w':=by
 have hk:∀ (args:Array Value) (v:World),(callFunc K args).run Tryz.prog v = .ok (.enter K args) v:=hK
 have A1:=hide h.ls
 have HH:=hide H
 clear hK
 have nl:=h.ls.len
 clear h H
 go_enter Tryz.func182,Tryz.ntmps182
 go_wp2_with fail
 go_loopw [8] (fun iv wr => ∃ n:Nat,iv = .int .i64 n ∧ n ≤ l.length ∧ Hid ((l.take n).any P = false) ∧ Hid (Below w.heap.size w wr)) (fun iv _ => l.length - (intOf iv).toNat)
 case atStart => exact ⟨0,rfl,by omega,hide rfl,hide (Below.refl _ _)⟩
 case round =>
  obtain ⟨n,rfl,hn,HN,HB⟩:=hrel
  by_cases hlt:n < l.length
  ·have hi:(n:Int) < (l.length:Int):=by omega
   obtain ⟨b,o,rfl,hb,hc⟩:=((uh A1).below (uh HB)).lies (by omega)
   have k0:wr.cell? ⟨b,o + n,none⟩ = some (.int .i64 (l.getD n default)):=hc n hlt
   have HX:=hide (fun v (hv:Below wr.heap.size wr v) => uh HH v (bl_tr (uh HB) hv) (l.getD n default) (getD_mem7 hlt))
   have HT:=hide (any_take7 P default l n hlt)
   have HM:=hide (any_mem7 (P:=P) (z:=default) hlt)
   generalize P (l.getD n default) = D at HX HT HM
   generalize l.getD n default = a at k0 HX
   clear hc
   cases D
   ·have HN2:Hid ((l.take (n + 1)).any P = false):=hide (by rw [uh HT,uh HN]; rfl)
    clear HT HM HN
    go_wp2_with fail
    refine (uh HX _ (Below.refl _ _)).mono ?_
    rintro e w1 ⟨rfl,hb1⟩
    have BB:=hide (bl_tr (uh HB) hb1)
    clear hb1
    go_wp2_with fail
    go_roundw
    case rel => exact ⟨n + 1,by go_num,by omega,HN2,BB⟩
    case measure => simp [intOf]; omega
   ·have HE:=hide (uh HM rfl)
    clear HT HM HN
    go_wp2_with fail
    refine (uh HX _ (Below.refl _ _)).mono ?_
    rintro e w1 ⟨rfl,hb1⟩
    have BB:=hide (bl_tr (uh HB) hb1)
    clear hb1
    go_wp2_with fail
    go_ret
    exact ⟨⟨n,rfl,by rw [uh HE]; simp⟩,uh BB⟩
  ·have hi:¬ (n:Int) < (l.length:Int):=by omega
   have HE:Hid (l.any P = false):=hide (by have:=uh HN; rw [List.take_of_length_le (by omega)] at this; exact this)
   clear HN
   go_wp2_with fail
   go_ret
   exact ⟨⟨-1,rfl,by rw [uh HE]; rfl⟩,uh HB⟩
theorem ccontI64_any (K:FuncId) (hK:Ent K) (caps:Array Value) (P:Int → Bool) (p:Option Addr) (c:Nat) (l:List Int) (w:World) (h:Ints .i64 w p c l)
  (H:∀ v,Below w.heap.size w v → ∀ x ∈ l,Calls Tryz.prog K (#[.int .i64 x] ++ caps) v fun e w' => e = .returned (.bool (P x)) ∧ Below v.heap.size v w') :
  Calls Tryz.prog 176 #[.slice p l.length c,.func (.func K) #[] caps] w fun e w' => e = .returned (.bool (l.any P)) ∧ Below w.heap.size w w':=by
 have IX:=hide (cidxI64_any K hK caps P p c l w h H)
 generalize l.any P = D at IX ⊢
 clear h H
 go_enter Tryz.func176,Tryz.ntmps176
 go_wp2_with fail
 refine (uh IX).mono ?_
 rintro e v ⟨⟨r,rfl,hr⟩,hb⟩
 have HR:=hide hr
 have HB:=hide hb
 clear hr hb
 go_wp2_with fail
 go_ret
 exact ⟨ret_bool (uh HR),uh HB⟩
end Go.Proofs.YtbmmcbagdomonaaGreat
