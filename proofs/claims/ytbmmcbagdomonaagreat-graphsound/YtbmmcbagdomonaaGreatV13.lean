import Derived.Test.YtbmmcbagdomonaaGreatV07
set_option maxRecDepth 100000
set_option maxHeartbeats 40000000
namespace Go.Proofs.YtbmmcbagdomonaaGreat
open Go.RowKit
set_option linter.unusedVariables false
theorem cothers_any (a:AtA) (w:World):Calls Tryz.prog 153 #[.agg (atCells a).toArray] w fun e w' => e = .returned (.agg (atCells (restA a)).toArray) ∧ Below w.heap.size w w':=by
 obtain ⟨nm,kd,f,i,s,⟨ty,ds,fs,is,bs⟩,⟨pd,cd,pf,cf,pi,ci,pb,cb⟩,fl,qf,cf',li,qi,ci'⟩:=a
 have HB:=hide (fun o => al1p w o)
 by_cases h1:kd = 1
 ·subst h1
  rw [show restA ⟨nm,1,f,i,s,(ty,ds,fs,is,bs),⟨pd,cd,pf,cf,pi,ci,pb,cb⟩,fl,qf,cf',li,qi,ci'⟩ = ⟨nm,1,0,i,s,(ty,ds,fs,is,bs),⟨pd,cd,pf,cf,pi,ci,pb,cb⟩,fl,qf,cf',li,qi,ci'⟩ from rfl]
  unfold atCells tenCells strV
  simp only [List.cons_append,List.nil_append]
  go_enter Tryz.func153,Tryz.ntmps153
  go_wp2_with fail
  refine bodyPost_ret ?_ rfl ⟨rfl,al2p _ _ _⟩
  simp [results,Tryz.results153,go_sem]
 ·have e1:(kd == 1) = false:=by simp [h1]
  by_cases h2:kd = 2
  ·subst h2
   rw [show restA ⟨nm,2,f,i,s,(ty,ds,fs,is,bs),⟨pd,cd,pf,cf,pi,ci,pb,cb⟩,fl,qf,cf',li,qi,ci'⟩ = ⟨nm,2,f,0,s,(ty,ds,fs,is,bs),⟨pd,cd,pf,cf,pi,ci,pb,cb⟩,fl,qf,cf',li,qi,ci'⟩ from rfl]
   unfold atCells tenCells strV
   simp only [List.cons_append,List.nil_append]
   go_enter Tryz.func153,Tryz.ntmps153
   go_wp2_with fail
   refine bodyPost_ret ?_ rfl ⟨rfl,al2p _ _ _⟩
   simp [results,Tryz.results153,go_sem]
  ·have e2:(kd == 2) = false:=by simp [h2]
   by_cases h3:kd = 3
   ·subst h3
    rw [show restA ⟨nm,3,f,i,s,(ty,ds,fs,is,bs),⟨pd,cd,pf,cf,pi,ci,pb,cb⟩,fl,qf,cf',li,qi,ci'⟩ = ⟨nm,3,f,i,[],(ty,ds,fs,is,bs),⟨pd,cd,pf,cf,pi,ci,pb,cb⟩,fl,qf,cf',li,qi,ci'⟩ from rfl]
    unfold atCells tenCells strV
    simp only [List.cons_append,List.nil_append]
    go_enter Tryz.func153,Tryz.ntmps153
    go_wp2_with fail
    refine bodyPost_ret ?_ rfl ⟨rfl,al2p _ _ _⟩
    simp [results,Tryz.results153,go_sem,str_nil7]
   ·have e3:(kd == 3) = false:=by simp [h3]
    by_cases h4:kd = 4
    ·subst h4
     rw [show restA ⟨nm,4,f,i,s,(ty,ds,fs,is,bs),⟨pd,cd,pf,cf,pi,ci,pb,cb⟩,fl,qf,cf',li,qi,ci'⟩ = ⟨nm,4,f,i,s,noTen,noTA,fl,qf,cf',li,qi,ci'⟩ from rfl]
     unfold atCells tenCells strV noTen noTA
     simp only [List.cons_append,List.nil_append]
     go_enter Tryz.func153,Tryz.ntmps153
     go_wp2_with fail
     refine bodyPost_ret ?_ rfl ⟨rfl,al2p _ _ _⟩
     simp [results,Tryz.results153,go_sem]
    ·have e4:(kd == 4) = false:=by simp [h4]
     by_cases h6:kd = 6
     ·subst h6
      rw [show restA ⟨nm,6,f,i,s,(ty,ds,fs,is,bs),⟨pd,cd,pf,cf,pi,ci,pb,cb⟩,fl,qf,cf',li,qi,ci'⟩ = ⟨nm,6,f,i,s,(ty,ds,fs,is,bs),⟨pd,cd,pf,cf,pi,ci,pb,cb⟩,[],none,0,li,qi,ci'⟩ from rfl]
      unfold atCells tenCells strV
      simp only [List.cons_append,List.nil_append]
      go_enter Tryz.func153,Tryz.ntmps153
      go_wp2_with fail
      refine bodyPost_ret ?_ rfl ⟨rfl,al2p _ _ _⟩
      simp [results,Tryz.results153,go_sem]
     ·have e6:(kd == 6) = false:=by simp [h6]
      by_cases h7:kd = 7
      ·subst h7
       rw [show restA ⟨nm,7,f,i,s,(ty,ds,fs,is,bs),⟨pd,cd,pf,cf,pi,ci,pb,cb⟩,fl,qf,cf',li,qi,ci'⟩ = ⟨nm,7,f,i,s,(ty,ds,fs,is,bs),⟨pd,cd,pf,cf,pi,ci,pb,cb⟩,fl,qf,cf',[],none,0⟩ from rfl]
       unfold atCells tenCells strV
       simp only [List.cons_append,List.nil_append]
       go_enter Tryz.func153,Tryz.ntmps153
       go_wp2_with fail
       refine bodyPost_ret ?_ rfl ⟨rfl,al2p _ _ _⟩
       simp [results,Tryz.results153,go_sem]
      ·have e7:(kd == 7) = false:=by simp [h7]
       rw [show restA ⟨nm,kd,f,i,s,(ty,ds,fs,is,bs),⟨pd,cd,pf,cf,pi,ci,pb,cb⟩,fl,qf,cf',li,qi,ci'⟩ = ⟨nm,kd,f,i,s,(ty,ds,fs,is,bs),⟨pd,cd,pf,cf,pi,ci,pb,cb⟩,fl,qf,cf',li,qi,ci'⟩ from by unfold restA; simp only; rw [if_neg h1,if_neg h2,if_neg h3,if_neg h4,if_neg h6,if_neg h7]]
       clear h1 h2 h3 h4 h6 h7
       unfold atCells tenCells strV
       simp only [List.cons_append,List.nil_append]
       go_enter Tryz.func153,Tryz.ntmps153
       go_wp2_with fail
       refine bodyPost_ret ?_ rfl ⟨rfl,al2p _ _ _⟩
       simp [results,Tryz.results153,go_sem]
end Go.Proofs.YtbmmcbagdomonaaGreat
