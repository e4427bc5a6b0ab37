import Derived.Test.YtkpmfkkfcikfhaaChecked
import Derived.Test.YtkpmfkkfcikfhaaV09
set_option maxRecDepth 100000
set_option maxHeartbeats 8000000
namespace Go.Proofs.Ytkpmfkkfcikfhaa
open Go.RowKit
set_option linter.unusedVariables false
def runL (P:Program) (ops:Array Oper):List Oper → Act → World → Option (Act × World)
 | [],a,w => some (a,w)
 | o :: r,a,w =>
   match Region.wanted o (yielded ops a.tmps) with
   | true =>
     match (execOp a.eval o).run P w with
     | .ok (.value v) w' => runL P ops r (a.put o.dst v) w'
     | .ok .skip w' => runL P ops r (a.put o.dst undef) w'
     | _ => none
   | false => runL P ops r (a.put o.dst undef) w
def runC (P:Program):Code → Act → World → Option (Exit × Act × World)
 | .skip,a,w => some (.normal,a,w)
 | .region _ ops false,a,w =>
   match runL P ops ops.toList a w with
   | some (a',w') => some (.normal,a',w')
   | none => none
 | .seq x y,a,w =>
   match runC P x a w with
   | some (.normal,a',w') => runC P y a' w'
   | some (.exit k,a',w') => some (.exit k,a',w')
   | some (.ret,a',w') => some (.ret,a',w')
   | _ => none
 | .cond c x y,a,w =>
   match a.eval c with
   | .bool true => runC P x a w
   | .bool false => runC P y a w
   | _ => none
 | .block id c,a,w =>
   match runC P c a w with
   | some (.normal,a',w') => some (.normal,a',w')
   | some (.exit k,a',w') => if k = id then some (.normal,a',w') else some (.exit k,a',w')
   | some (.ret,a',w') => some (.ret,a',w')
   | _ => none
 | .exit k,a,w => some (.exit k,a,w)
 | .ret,a,w => some (.ret,a,w)
 | _,_,_ => none
theorem runL_wp {P:Program} {ops:Array Oper} {Q:Exit → Act → World → Prop} {a':Act} {w':World} (hQ:Q .normal a' w'):∀ (l:List Oper) (a:Act) (w:World),runL P ops l a w = some (a',w') → wpList P ops Q l a w
 | [],a,w,h => by
   simp only [runL,Option.some.injEq,Prod.mk.injEq] at h
   obtain ⟨rfl,rfl⟩:=h
   exact hQ
 | o :: r,a,w,h => by
   unfold runL at h
   unfold wpList
   split at h
   ·rename_i hw
    rw [if_pos hw]
    refine .inl ?_
    unfold Oper.wp
    split at h
    ·rename_i v w1 he
     rw [he]
     exact runL_wp hQ r _ _ h
    ·rename_i w1 he
     rw [he]
     exact runL_wp hQ r _ _ h
    ·cases h
   ·rename_i hw
    rw [if_neg (by rw [hw]; decide)]
    exact runL_wp hQ r _ _ h
theorem runC_wp {P:Program}:∀ (c:Code) {Q:Exit → Act → World → Prop} (a:Act) (w:World) {e:Exit} {a':Act} {w':World},runC P c a w = some (e,a',w') → Q e a' w' → c.wp P Q a w
 | .skip,Q,a,w,e,a',w',h,hQ => by
   simp only [runC,Option.some.injEq,Prod.mk.injEq] at h
   obtain ⟨rfl,rfl,rfl⟩:=h
   exact wp_skip hQ
 | .region _ ops false,Q,a,w,e,a',w',h,hQ => by
   unfold runC at h
   split at h
   ·rename_i a1 w1 he
    simp only [Option.some.injEq,Prod.mk.injEq] at h
    obtain ⟨rfl,rfl,rfl⟩:=h
    exact wp_region_list (runL_wp hQ _ _ _ he)
   ·cases h
 | .region _ _ true,Q,a,w,e,a',w',h,hQ => by simp [runC] at h
 | .seq x y,Q,a,w,e,a',w',h,hQ => by
   unfold runC at h
   refine wp_seq ?_
   split at h
   ·rename_i a1 w1 he
    exact runC_wp x a w he (runC_wp y a1 w1 h hQ)
   ·rename_i k a1 w1 he
    simp only [Option.some.injEq,Prod.mk.injEq] at h
    obtain ⟨rfl,rfl,rfl⟩:=h
    exact runC_wp x a w he hQ
   ·rename_i a1 w1 he
    simp only [Option.some.injEq,Prod.mk.injEq] at h
    obtain ⟨rfl,rfl,rfl⟩:=h
    exact runC_wp x a w he hQ
   ·cases h
 | .cond c x y,Q,a,w,e,a',w',h,hQ => by
   unfold runC at h
   split at h
   ·rename_i hc
    exact wp_cond_true hc (runC_wp x a w h hQ)
   ·rename_i hc
    exact wp_cond_false hc (runC_wp y a w h hQ)
   ·cases h
 | .block id c,Q,a,w,e,a',w',h,hQ => by
   unfold runC at h
   refine wp_block ?_
   split at h
   ·rename_i a1 w1 he
    simp only [Option.some.injEq,Prod.mk.injEq] at h
    obtain ⟨rfl,rfl,rfl⟩:=h
    exact runC_wp c a w he hQ
   ·rename_i k a1 w1 he
    refine runC_wp c a w he ?_
    unfold Exit.inBlock
    by_cases hk:k = id
    ·rw [if_pos hk] at h
     simp only [Option.some.injEq,Prod.mk.injEq] at h
     obtain ⟨rfl,rfl,rfl⟩:=h
     simp only [if_pos hk]
     exact hQ
    ·rw [if_neg hk] at h
     simp only [Option.some.injEq,Prod.mk.injEq] at h
     obtain ⟨rfl,rfl,rfl⟩:=h
     simp only [if_neg hk]
     exact hQ
   ·rename_i a1 w1 he
    simp only [Option.some.injEq,Prod.mk.injEq] at h
    obtain ⟨rfl,rfl,rfl⟩:=h
    exact runC_wp c a w he hQ
   ·cases h
 | .exit k,Q,a,w,e,a',w',h,hQ => by
   simp only [runC,Option.some.injEq,Prod.mk.injEq] at h
   obtain ⟨rfl,rfl,rfl⟩:=h
   exact wp_exit hQ
 | .ret,Q,a,w,e,a',w',h,hQ => by
   simp only [runC,Option.some.injEq,Prod.mk.injEq] at h
   obtain ⟨rfl,rfl,rfl⟩:=h
   exact wp_ret hQ
 | .loop c,Q,a,w,e,a',w',h,hQ => by simp [runC] at h
 | .rangeFunc _ _ _ _,Q,a,w,e,a',w',h,hQ => by simp [runC] at h
 | .scope _,Q,a,w,e,a',w',h,hQ => by simp [runC] at h
 | .label _,Q,a,w,e,a',w',h,hQ => by simp [runC] at h
 | .goto _,Q,a,w,e,a',w',h,hQ => by simp [runC] at h
 | .refuse _,Q,a,w,e,a',w',h,hQ => by simp [runC] at h
def runF (P:Program) (f:FuncId) (args:Array Value) (w:World):Option (Bool × Result Value × World) :=
 match P.funcs[f]? with
 | some fn =>
   match fn.body with
   | some c =>
     match runC P c { tmps:=args ++ Array.replicate (fn.ntmps - args.size) undef,defers:=[] } w with
     | some (.ret,a,w') => some (a.defers.isEmpty,(results fn a.tmps).run P w',w')
     | some (.normal,a,w') => some (a.defers.isEmpty,(results fn a.tmps).run P w',w')
     | _ => none
   | none => none
 | none => none
theorem runF_calls {P:Program} {f:FuncId} {args:Array Value} {w:World} {R:Ending → World → Prop} {v:Value} {w':World} (h:runF P f args w = some (true,.ok v w',w')) (hR:R (.returned v) w'):Calls P f args w R:=by
 unfold runF at h
 split at h
 ·rename_i fn hf
  split at h
  ·rename_i c hc
   split at h
   ·rename_i a w1 he
    simp only [Option.some.injEq,Prod.mk.injEq,List.isEmpty_iff] at h
    obtain ⟨h1,h2,rfl⟩:=h
    exact calls_of_wp hf hc (runC_wp c _ _ he (bodyPost_ret h2 h1 hR))
   ·rename_i a w1 he
    simp only [Option.some.injEq,Prod.mk.injEq,List.isEmpty_iff] at h
    obtain ⟨h1,h2,rfl⟩:=h
    exact calls_of_wp hf hc (runC_wp c _ _ he (bodyPost_end h2 h1 hR))
   ·cases h
  ·cases h
 ·cases h
end Go.Proofs.Ytkpmfkkfcikfhaa
