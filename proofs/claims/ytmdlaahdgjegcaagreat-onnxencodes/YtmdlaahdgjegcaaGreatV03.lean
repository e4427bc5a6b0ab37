import Derived.Test.YtmdlaahdgjegcaaGreatV02
set_option maxRecDepth 100000
set_option maxHeartbeats 8000000
namespace Go.Proofs.YtmdlaahdgjegcaaGreat
open Go.RowKit
set_option linter.unusedVariables false
def sumD (l:List FA):Nat:=(l.map fun a => a.d.length).sum
theorem sumD_append (l m:List FA):sumD (l ++ m) = sumD l + sumD m:=by simp [sumD]
theorem sumD_all (l:List FA) (num:Int):sumD (allA l num) ≤ sumD l:=by
 induction l with
 | nil => simp [allA,sumD]
 | cons a r ih =>
   have e:sumD (a :: r) = a.d.length + sumD r:=by simp [sumD]
   unfold allA at ih ⊢
   rw [List.filter_cons]
   split
   ·have e2:sumD (a :: r.filter fun a => a.n == num) = a.d.length + sumD (r.filter fun a => a.n == num):=by simp [sumD]
    omega
   ·omega
theorem sumD_take (l:List FA) (n:Nat):sumD (l.take n) ≤ sumD l:=by
 have:=sumD_append (l.take n) (l.drop n)
 rw [List.take_append_drop] at this
 omega
def flatD (l:List FA):List Int:=l.flatMap fun a => a.d
theorem flatD_len (l:List FA):(flatD l).length = sumD l:=by
 unfold flatD sumD
 rw [List.length_flatMap]
theorem flatD_f (l:List FA):(l.map FA.f).flatMap (fun f => f.2.2.2) = flatD l:=by
 unfold flatD
 rw [List.flatMap_map]
 rfl
theorem take_addF (l:List FA) (n:Nat) (h:n < l.length):l.take (n + 1) = l.take n ++ [l.getD n noFA]:=by
 rw [List.take_add_one,List.getD_eq_getElem?_getD,List.getElem?_eq_getElem h]
 rfl
theorem allA_in {w:World} {l:List FA} {num:Int} (h:∀ a ∈ l,FaIn w a):∀ a ∈ allA l num,FaIn w a:=fun a ha => h a (List.mem_filter.1 ha).1
theorem Tryz.infoU64:(Tryz.prog.info? 45).map (fun i => (i.zero,i.size,i.bytes)) = some (some (.int .u64 0),1,8):=by kernel_rfl
theorem allOr_one (g:Fld → Option (List Int)) (l:List FA) (n:Nat) (h:n < l.length) (xs:List Int) (hx:allOr g ((l.take n).map FA.f) = some xs):allOr g ((l.take (n + 1)).map FA.f) = (g (l.getD n noFA).f).map (xs ++ ·):=by
 rw [take_addF l n h,List.map_append,allOr_append,hx]
 simp only [List.map_cons,List.map_nil,allOr]
 cases g (l.getD n noFA).f <;> simp
theorem allOr_none {g:Fld → Option (List Int)} {l:List FA} {n:Nat} (h:allOr g ((l.take n).map FA.f) = none):allOr g (l.map FA.f) = none:=by
 rw [← List.take_append_drop n l,List.map_append,allOr_append,h]
theorem vars_step {d:List Int} {m:Nat} {ys:List Int} (hm:m < d.length) (h:varsL d = (varsL (d.drop m)).map (ys ++ ·)):varsL d = match rdG 10 (d.drop m) with
  | none => none
  | some y => (varsL (d.drop (m + y.2))).map ((ys ++ [y.1]) ++ ·):=by
 rw [h,varsL_step (by simp; omega)]
 cases rdG 10 (d.drop m) with
 | none => rfl
 | some y =>
   simp only [List.drop_drop]
   cases varsL (d.drop (m + y.2)) <;> simp
theorem rdV_in {d:List Int} {m:Nat} (hm:m ≤ d.length):rdV d (m:Int) = match rdG 10 (d.drop m) with
  | none => (0,0,6)
  | some y => (y.1,((m + y.2:Nat):Int),0):=by
 unfold rdV rdN
 rw [if_neg (by omega),Int.toNat_natCast]
 cases rdG 10 (d.drop m) <;> rfl
theorem int1_0 {a:FA} (h:a.wr = 0):int1 a.f = some [a.x]:=by unfold int1 FA.f; simp [h]
theorem int1_2 {a:FA} (h:a.wr = 2):int1 a.f = varsL a.d:=by unfold int1 FA.f; simp [h]
theorem int1_no {a:FA} (h:¬ a.wr = 0) (k:¬ a.wr = 2):int1 a.f = none:=by unfold int1 FA.f; simp [h,k]
theorem Tryz.infoU32p:(Tryz.prog.info? 84).map (fun i => (i.zero,i.size,i.bytes)) = some (some (.int .u32 0),1,4):=by kernel_rfl
theorem fours_len (d:List Int):(fours d).length = d.length / 4:=by simp [fours]
theorem fours_take (d:List Int) (m:Nat) (h:4 * m + 4 ≤ d.length):(fours d).take (m + 1) = (fours d).take m ++ [leV ((d.drop (4 * m)).take 4)]:=by
 rw [List.take_add_one]
 congr 1
 unfold fours
 rw [List.getElem?_map,List.getElem?_range (by omega)]
 rfl
theorem Ints.cut {k:IntKind} {w:World} {p:Option Addr} {b o c:Nat} {xs:List Int} (h:Ints k w p c xs) (e:p = some ⟨b,o,none⟩) (i n:Nat) (hin:i + n ≤ xs.length):Ints k w (some ⟨b,o + i,none⟩) (c - i) ((xs.drop i).take n):=by
 subst e
 have hl:((xs.drop i).take n).length = n:=by simp; omega
 have hc:=h.1
 refine ⟨by rw [hl]; omega,by have:=h.2.1; omega,fun x hx => h.2.2.1 x (List.mem_of_mem_drop (List.mem_of_mem_take hx)),fun hp => ?_,fun h => by cases h⟩
 rw [hl] at hp
 obtain ⟨b',o',e',hb,hcell⟩:=h.lies (by omega)
 simp only [Option.some.injEq,Addr.mk.injEq] at e'
 obtain ⟨rfl,rfl,_⟩:=e'
 refine ⟨b,o + i,rfl,hb,fun j hj => ?_⟩
 rw [hl] at hj
 have:=hcell (i + j) (by omega)
 rw [Nat.add_assoc,this]
 congr 2
 rw [List.getD_eq_getElem?_getD,List.getD_eq_getElem?_getD,List.getElem?_take_of_lt hj,List.getElem?_drop]
end Go.Proofs.YtmdlaahdgjegcaaGreat
