import Derived.Test.YtbmmcbagdomonaaGreatV26
set_option maxRecDepth 100000
set_option maxHeartbeats 40000000
namespace Go.Proofs.YtbmmcbagdomonaaGreat
open Go.RowKit
set_option linter.unusedVariables false
set_option linter.unusedSimpArgs false
theorem chold8_any (b:Int × Int × Int × Int) (a:AtA) (B:Nat) (w:World) (h:AtIn B w a) :
  Calls Tryz.prog 163 #[bndV b,.agg (atCells a).toArray] w fun e w' => e = .returned (.bool (holdB b a.kd a.i a.fl.length a.is)) ∧ Below w.heap.size w w':=by
 obtain ⟨h1,h2,h3,h4,h5,h6,h7,h8,h9⟩:=h
 have HS:=hide h8
 have nl:=h8.ls.len
 have nf:=h7.1.ls.len
 clear h1 h2 h3 h4 h5 h6 h7 h9 h8
 obtain ⟨b0,b1,b2,b3⟩:=b
 obtain ⟨nm,kd,f,i,s,⟨t0,t1,t2,t3,t4⟩,A,fl,qf,cf,is,qi,ci⟩:=a
 have CB:=hide (fun v (hv:Below ((w.alloc (.cells #[.int .i64 b0,.int .i64 b1,.int .i64 b2,.int .i64 b3] 196)).heap.size) (w.alloc (.cells #[.int .i64 b0,.int .i64 b1,.int .i64 b2,.int .i64 b3] 196)) v) (x:Int) =>
  cbey_any b0 b1 b2 b3 x w.heap.size v (((Box.new w #[.int .i64 b0,.int .i64 b1,.int .i64 b2,.int .i64 b3] 196).below hv).lt) (by rw [((Box.new w #[.int .i64 b0,.int .i64 b1,.int .i64 b2,.int .i64 b3] 196).below hv).cell]; rfl) (by rw [((Box.new w #[.int .i64 b0,.int .i64 b1,.int .i64 b2,.int .i64 b3] 196).below hv).cell]; rfl))
 unfold atCells bndV tenCells strV holdB
 simp only [List.cons_append,List.nil_append] at *
 by_cases hk:kd = b0
 ·subst hk
  rw [if_pos rfl]
  by_cases k2:kd = 2
  ·subst k2
   rw [if_pos rfl]
   obtain ⟨D,hD⟩:∃ D,beyB b1 b2 i = D:=⟨_,rfl⟩
   have HC:=hide (fun v hv => uh CB v hv i)
   rw [hD] at HC ⊢
   clear CB HS hD
   go_enter Tryz.func163,Tryz.ntmps163
   go_wp2_with fail
   refine (uh HC _ (al1p _ _)).mono ?_
   rintro e w1 ⟨rfl,hb⟩
   have BB:=hide hb
   clear hb HC
   go_wp2_with fail
   go_ret
   exact ⟨rfl,bl_tr (bl_tr (al1p _ _) (al1p _ _)) (uh BB)⟩
  ·rw [if_neg k2]
   have t2:(kd == 2) = false:=by simp [k2]
   by_cases k6:kd = 6
   ·subst k6
    rw [if_pos rfl]
    clear CB HS
    go_enter Tryz.func163,Tryz.ntmps163
    go_wp2_with fail
    go_ret
    exact ⟨rfl,bl_tr (al1p _ _) (al1p _ _)⟩
   ·rw [if_neg k6]
    have t6:(kd == 6) = false:=by simp [k6]
    by_cases k7:kd = 7
    ·subst k7
     rw [if_pos rfl]
     by_cases hl:(is.length:Int) ≤ b3
     ·rw [decide_eq_true hl,Bool.true_and]
      obtain ⟨D,hD⟩:∃ D,is.any (beyB b1 b2) = D:=⟨_,rfl⟩
      have HC:=hide (fun v (hv:Below ((w.alloc (.cells #[.int .i64 7,.int .i64 b1,.int .i64 b2,.int .i64 b3] 196)).heap.size) (w.alloc (.cells #[.int .i64 7,.int .i64 b1,.int .i64 b2,.int .i64 b3] 196)) v) => ccontI64_any 175 (ent_of Tryz.func175 (by kernel_rfl) rfl) #[.pointer (some ⟨w.heap.size,0,none⟩)] (beyB b1 b2) qi ci is v ((uh HS).below (bl_tr (al1p _ _) hv)) (fun u hu x _ => uh CB u (bl_tr hv hu) x))
      rw [hD] at HC ⊢
      clear CB HS hD
      go_enter Tryz.func163,Tryz.ntmps163
      go_wp2_with fail
      refine (uh HC _ (al1p _ _)).mono ?_
      rintro e w1 ⟨rfl,hb⟩
      have BB:=hide hb
      clear hb HC
      go_wp2_with fail
      go_ret
      exact ⟨rfl,bl_tr (bl_tr (al1p _ _) (al1p _ _)) (uh BB)⟩
     ·rw [decide_eq_false hl,Bool.false_and]
      clear CB HS
      go_enter Tryz.func163,Tryz.ntmps163
      go_wp2_with fail
      go_ret
      exact ⟨rfl,bl_tr (al1p _ _) (al1p _ _)⟩
    ·rw [if_neg k7]
     have t7:(kd == 7) = false:=by simp [k7]
     clear CB HS
     go_enter Tryz.func163,Tryz.ntmps163
     go_wp2_with fail
     go_ret
     exact ⟨rfl,bl_tr (al1p _ _) (al1p _ _)⟩
 ·rw [if_neg hk]
  have t0:(kd != b0) = true:=by simp [hk]
  clear CB HS
  go_enter Tryz.func163,Tryz.ntmps163
  go_wp2_with fail
  go_ret
  exact ⟨rfl,bl_tr (al1p _ _) (al1p _ _)⟩
end Go.Proofs.YtbmmcbagdomonaaGreat
