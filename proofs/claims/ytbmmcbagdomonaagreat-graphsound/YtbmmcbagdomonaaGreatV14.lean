import Derived.Test.YtbmmcbagdomonaaGreatV07
set_option maxRecDepth 100000
set_option maxHeartbeats 40000000
namespace Go.Proofs.YtbmmcbagdomonaaGreat
open Go.RowKit
set_option linter.unusedVariables false
theorem ckept_any (a:AtA) (w:World):Calls Tryz.prog 151 #[.agg (atCells a).toArray] w fun e w' => e = .returned (.tuple #[.agg (atCells (keptA a)).toArray,.bool (kindB a.kd)]) ∧ Below w.heap.size w w':=by
 obtain ⟨nm,kd,f,i,s,⟨ty,ds,fs,is,bs⟩,⟨pd,cd,pf,cf,pi,ci,pb,cb⟩,fl,qf,cf',li,qi,ci'⟩:=a
 have HB:=hide (fun o => al1p w o)
 have HB2:=hide (fun o p => al2p w o p)
 simp only
 by_cases h1:kd = 1
 ·subst h1
  rw [show keptA ⟨nm,1,f,i,s,(ty,ds,fs,is,bs),⟨pd,cd,pf,cf,pi,ci,pb,cb⟩,fl,qf,cf',li,qi,ci'⟩ = ⟨nm,1,f,0,[],noTen,noTA,[],none,0,[],none,0⟩ from rfl,show kindB 1 = true from rfl]
  unfold atCells tenCells strV noTen noTA
  simp only [List.cons_append,List.nil_append]
  go_enter Tryz.func151,Tryz.ntmps151
  go_wp2_with fail
  refine bodyPost_ret ?_ rfl ⟨rfl,al3p _ _ _ _⟩
  simp [results,Tryz.results151,go_sem,str_nil7]
 ·have e1:(kd == 1) = false:=by simp [h1]
  by_cases h2:kd = 2
  ·subst h2
   rw [show keptA ⟨nm,2,f,i,s,(ty,ds,fs,is,bs),⟨pd,cd,pf,cf,pi,ci,pb,cb⟩,fl,qf,cf',li,qi,ci'⟩ = ⟨nm,2,0,i,[],noTen,noTA,[],none,0,[],none,0⟩ from rfl,show kindB 2 = true from rfl]
   unfold atCells tenCells strV noTen noTA
   simp only [List.cons_append,List.nil_append]
   go_enter Tryz.func151,Tryz.ntmps151
   go_wp2_with fail
   refine bodyPost_ret ?_ rfl ⟨rfl,al3p _ _ _ _⟩
   simp [results,Tryz.results151,go_sem,str_nil7]
  ·have e2:(kd == 2) = false:=by simp [h2]
   by_cases h3:kd = 3
   ·subst h3
    rw [show keptA ⟨nm,3,f,i,s,(ty,ds,fs,is,bs),⟨pd,cd,pf,cf,pi,ci,pb,cb⟩,fl,qf,cf',li,qi,ci'⟩ = ⟨nm,3,0,0,s,noTen,noTA,[],none,0,[],none,0⟩ from rfl,show kindB 3 = true from rfl]
    unfold atCells tenCells strV noTen noTA
    simp only [List.cons_append,List.nil_append]
    go_enter Tryz.func151,Tryz.ntmps151
    go_wp2_with fail
    refine bodyPost_ret ?_ rfl ⟨rfl,al3p _ _ _ _⟩
    simp [results,Tryz.results151,go_sem]
   ·have e3:(kd == 3) = false:=by simp [h3]
    by_cases h4:kd = 4
    ·subst h4
     rw [show keptA ⟨nm,4,f,i,s,(ty,ds,fs,is,bs),⟨pd,cd,pf,cf,pi,ci,pb,cb⟩,fl,qf,cf',li,qi,ci'⟩ = ⟨nm,4,0,0,[],(ty,ds,fs,is,bs),⟨pd,cd,pf,cf,pi,ci,pb,cb⟩,[],none,0,[],none,0⟩ from rfl,show kindB 4 = true from rfl]
     unfold atCells tenCells strV
     simp only [List.cons_append,List.nil_append]
     go_enter Tryz.func151,Tryz.ntmps151
     go_wp2_with fail
     refine bodyPost_ret ?_ rfl ⟨rfl,al3p _ _ _ _⟩
     simp [results,Tryz.results151,go_sem,str_nil7]
    ·have e4:(kd == 4) = false:=by simp [h4]
     by_cases h6:kd = 6
     ·subst h6
      rw [show keptA ⟨nm,6,f,i,s,(ty,ds,fs,is,bs),⟨pd,cd,pf,cf,pi,ci,pb,cb⟩,fl,qf,cf',li,qi,ci'⟩ = ⟨nm,6,0,0,[],noTen,noTA,fl,qf,cf',[],none,0⟩ from rfl,show kindB 6 = true from rfl]
      unfold atCells tenCells strV noTen noTA
      simp only [List.cons_append,List.nil_append]
      go_enter Tryz.func151,Tryz.ntmps151
      go_wp2_with fail
      refine bodyPost_ret ?_ rfl ⟨rfl,al3p _ _ _ _⟩
      simp [results,Tryz.results151,go_sem,str_nil7]
     ·have e6:(kd == 6) = false:=by simp [h6]
      by_cases h7:kd = 7
      ·subst h7
       rw [show keptA ⟨nm,7,f,i,s,(ty,ds,fs,is,bs),⟨pd,cd,pf,cf,pi,ci,pb,cb⟩,fl,qf,cf',li,qi,ci'⟩ = ⟨nm,7,0,0,[],noTen,noTA,[],none,0,li,qi,ci'⟩ from rfl,show kindB 7 = true from rfl]
       unfold atCells tenCells strV noTen noTA
       simp only [List.cons_append,List.nil_append]
       go_enter Tryz.func151,Tryz.ntmps151
       go_wp2_with fail
       refine bodyPost_ret ?_ rfl ⟨rfl,al3p _ _ _ _⟩
       simp [results,Tryz.results151,go_sem,str_nil7]
      ·have e7:(kd == 7) = false:=by simp [h7]
       rw [show keptA ⟨nm,kd,f,i,s,(ty,ds,fs,is,bs),⟨pd,cd,pf,cf,pi,ci,pb,cb⟩,fl,qf,cf',li,qi,ci'⟩ = noAtA from by unfold keptA; simp only; rw [if_neg h1,if_neg h2,if_neg h3,if_neg h4,if_neg h6,if_neg h7],show kindB kd = false from by unfold kindB; simp [h1,h2,h3,h4,h6,h7]]
       clear h1 h2 h3 h4 h6 h7
       unfold noAtA
       unfold atCells tenCells strV noTA
       simp only [List.cons_append,List.nil_append]
       go_enter Tryz.func151,Tryz.ntmps151
       go_wp2_with fail
       refine bodyPost_ret ?_ rfl ⟨rfl,al3p _ _ _ _⟩
       simp [results,Tryz.results151,go_sem,str_nil7]
end Go.Proofs.YtbmmcbagdomonaaGreat
