import Derived.Below
import Derived.BigQuiet
import Derived.RowKit
import Derived.Test.YtmdlaahdgjegcaaGreatV01
set_option maxRecDepth 100000
set_option maxHeartbeats 8000000
namespace Go.Proofs.YtmdlaahdgjegcaaGreat
open Go.RowKit
set_option linter.unusedVariables false
theorem al1p (w:World) (o:Obj):Below w.heap.size w (w.alloc o):=(Below.refl _ _).alloc (Nat.le_refl _) _
theorem bdrewp (w:World):Below w.heap.size w w.drew:=(Below.refl _ _).drew
theorem bneTp {a b:Int} (h:¬ a = b):(a != b) = true:=by simp [h]
theorem bneFp {a b:Int} (h:a = b):(a != b) = false:=by simp [h]
theorem ls_one6 {α:Type} [Inhabited α] {f:α → Value} (w:World) (x:α) (t:TypeId):Ls f (w.alloc (.cells #[f x] t)) (some ⟨w.heap.size,0,none⟩) 1 [x]:=by
 refine ⟨Nat.le_refl _,by omega,fun _ => ⟨w.heap.size,0,rfl,by simp,fun i hi => ?_⟩,fun h => by cases h⟩
 have:i = 0:=by simp at hi; omega
 subst this; simp
theorem own_eq6 {α:Type} {t:TypeId} {f:α → Value} {w wr:World} {v:Value} {xs ys:List α} (h:OwnG t f w wr v xs) (e:xs = ys):OwnG t f w wr v ys:=by subst e; exact h
theorem u8_wf {x:Int} (h:0 ≤ x ∧ x < 256):(Lit.int .u8 x).wf = true:=by
 simp [Lit.wf,IntKind.min,IntKind.max,IntKind.signed,IntKind.bits]; omega
theorem u8_range6 {x:Int} (h:(Lit.int .u8 x).wf = true):0 ≤ x ∧ x < 256:=by
 simp [Lit.wf,IntKind.min,IntKind.max,IntKind.signed,IntKind.bits] at h
 omega
theorem isB_wf {l:List Int} (h:isB l):∀ x ∈ l,(Lit.int .u8 x).wf = true:=fun x hx => u8_wf (h x hx)
theorem wf_isB {l:List Int} (h:∀ x ∈ l,(Lit.int .u8 x).wf = true):isB l:=fun x hx => u8_range6 (h x hx)
theorem getD_mem6 {ds:List Int} {n:Nat} (h:n < ds.length):ds.getD n 0 ∈ ds:=by
 rw [List.getD_eq_getElem?_getD,List.getElem?_eq_getElem h]; simp
theorem Tryz.infoU8:(Tryz.prog.info? 5).map (fun i => (i.zero,i.size,i.bytes)) = some (some (.int .u8 0),1,1):=by kernel_rfl
theorem drop_cons6 {b:List Int} {n:Nat} (h:n < b.length):b.drop n = b.getD n 0 :: b.drop (n + 1):=by
 rw [List.drop_eq_getElem_cons h]; congr 1; simp [List.getElem?_eq_getElem h]
def comb (i:Nat) (acc:Int) (o:Option (Int × Nat)):Option (Int × Nat):=o.map fun y => (acc + 128 ^ i * y.1,i + y.2)
theorem comb_zero (o:Option (Int × Nat)):comb 0 0 o = o:=by unfold comb; cases o <;> simp
theorem comb_step (i:Nat) (acc c:Int) (k:Nat) (r:List Int) (h1:¬ (k = 0 ∧ 1 < c)) (h2:¬ c < 128):comb i acc (rdG (k + 1) (c :: r)) = comb (i + 1) (acc + 128 ^ i * (c % 128)) (rdG k r):=by
 rw [rdG,if_neg h1,if_neg h2]
 unfold comb
 cases rdG k r with
 | none => rfl
 | some y =>
   simp only [Option.map_some,Int.pow_succ]
   congr 2
   ·rw [Int.mul_add,Int.mul_assoc]; omega
   ·omega
theorem comb_end (i:Nat) (acc c:Int) (k:Nat) (r:List Int) (h1:¬ (k = 0 ∧ 1 < c)) (h2:c < 128):comb i acc (rdG (k + 1) (c :: r)) = some (acc + 128 ^ i * (c % 128),i + 1):=by
 rw [rdG,if_neg h1,if_pos h2]; rfl
theorem pow128_le (i:Nat) (h:i ≤ 9):1 ≤ (128:Int) ^ i ∧ (128:Int) ^ i ≤ 9223372036854775808:=by
 match i,h with
 | 0,_ => decide
 | 1,_ => decide
 | 2,_ => decide
 | 3,_ => decide
 | 4,_ => decide
 | 5,_ => decide
 | 6,_ => decide
 | 7,_ => decide
 | 8,_ => decide
 | 9,_ => decide
theorem Tryz.f_int3 {a a' b b' c c':Int} (h1:a = a') (h2:b = b') (h3:c = c'):Ending.returned (.tuple #[.int .u64 a,.int .i64 b,.int .i64 c]) = .returned (.tuple #[.int .u64 a',.int .i64 b',.int .i64 c']):=by rw [h1,h2,h3]
theorem rvarint_any (x:Int) (w:World) (h0:0 ≤ x) (h1:x < 18446744073709551616) :
  Calls Tryz.prog 55 #[.int .u64 x] w fun e w' => ∃ v,e = .returned v ∧ OwnG 5 (Value.int .u8) w w' v (varV x):=by
 obtain ⟨i1,hi1,y1,z1,b1⟩:=info_parts Tryz.infoU8
 go_enter Tryz.func55,Tryz.ntmps55
 go_wp2_with fail
 go_loopw [0,3] (fun xv v wr => ∃ y:Int,∃ pre:List Int,xv = .int .u64 y ∧ 0 ≤ y ∧ y < 18446744073709551616 ∧ Hid (pre ++ varV y = varV x) ∧ Hid (OwnG 5 (Value.int .u8) w wr v pre)) (fun xv _ _ => (intOf xv).toNat)
 case atStart => exact ⟨x,[],rfl,h0,h1,hide (by simp),hide (OwnG.nil _ _ _ (Below.refl _ _))⟩
 case round =>
  obtain ⟨y,pre,rfl,g0,g1,HV,O⟩:=hrel
  have hpl:pre.length ≤ 9:=by
   have e:=congrArg List.length (uh HV)
   rw [List.length_append] at e
   have:=varV_len x
   have:=varV_len y
   omega
  by_cases hy:y < 128
  ·have hge:¬ (128:Int) ≤ y:=by omega
   have HE:=hide ((congrArg (pre ++ ·) (varV_small hy)).symm.trans (uh HV))
   have hwr:IntKind.u8.wrap y = y:=by rw [IntKind.wrap_u8]; omega
   clear HV
   go_wp2_with (at_builtin; (refine wpList_append_ls rfl _ _ 22 rfl w 5 i1 (.int .u8 0) 1 Tryz.underlying22 hi1 y1 z1 b1 rfl (int_one .u8) _ pre rfl ((uh O).below (al1p _ _)) (some ⟨_,0,none⟩) 1 [y] rfl (ls_one6 _ _ _) (by unfold maxLen; simp <;> omega) (by simp <;> omega) ?_; intro v2 w2 O2; have HO2:=hide O2; clear O2))
   go_ret
   exact ⟨_,rfl,own_eq6 (uh HO2) (uh HE)⟩
  ·have hge:(128:Int) ≤ y:=by omega
   have HE:Hid ((pre ++ [y % 128 + 128]) ++ varV (y / 128) = varV x):=hide (by rw [← uh HV,varV_step hy g1,List.append_assoc]; rfl)
   obtain ⟨m,hm⟩:∃ m,y % 128 = m:=⟨_,rfl⟩
   have m0:0 ≤ m:=by omega
   have m1:m < 128:=by omega
   rw [hm] at HE
   have hwr:IntKind.u8.wrap (m + 128) = m + 128:=by rw [IntKind.wrap_u8]; omega
   have d0:0 ≤ y / 128:=by omega
   have d1:y / 128 < 18446744073709551616:=by omega
   clear HV
   go_wp2_with (at_builtin; (refine wpList_append_ls rfl _ _ 22 rfl w 5 i1 (.int .u8 0) 1 Tryz.underlying22 hi1 y1 z1 b1 rfl (int_one .u8) _ pre rfl ((uh O).below (al1p _ _)) (some ⟨_,0,none⟩) 1 [m + 128] rfl (ls_one6 _ _ _) (by unfold maxLen; simp <;> omega) (by simp <;> omega) ?_; intro v2 w2 O2; have HO2:=hide O2; clear O2))
   go_roundw
   case rel => exact ⟨y / 128,pre ++ [m + 128],rfl,d0,d1,HE,HO2⟩
   case measure => simp [intOf]; omega
theorem leV_drop {b:List Int} {n:Nat} (h:n < b.length):leV (b.drop n) = b.getD n 0 + 256 * leV (b.drop (n + 1)):=by rw [drop_cons6 h]; rfl
theorem take_eq6 {xs ys:List Int} {n:Nat} (h1:n < xs.length) (h2:n < ys.length) (h:xs.take n = ys.take n) (e:xs.getD n 0 = ys.getD n 0):xs.take (n + 1) = ys.take (n + 1):=by
 have t:∀ l:List Int,n < l.length → l.take (n + 1) = l.take n ++ [l.getD n 0]:=fun l hl => by
  rw [List.take_add_one,List.getElem?_eq_getElem hl,List.getD_eq_getElem?_getD,List.getElem?_eq_getElem hl]; rfl
 rw [t xs h1,t ys h2,h,e]
theorem take_all6 {α:Type} {xs ys:List α} {n:Nat} (hl:xs.length = ys.length) (hn:n = xs.length) (h:xs.take n = ys.take n):xs = ys:=by
 rw [List.take_of_length_le (by omega),List.take_of_length_le (by omega)] at h
 exact h
theorem rsameb_any (p p':Option Addr) (c c':Nat) (xs ys:List Int) (w:World) (h:Ints .u8 w p c xs) (k:Ints .u8 w p' c' ys) :
  Calls Tryz.prog 20 #[.slice p xs.length c,.slice p' ys.length c'] w fun e w' => e = .returned (.bool (decide (xs = ys))) ∧ Below w.heap.size w w':=by
 have A1:=hide h
 have A2:=hide k
 have nx:=h.len
 have ny:=k.len
 clear h k
 obtain ⟨D,hD⟩:∃ D,decide (xs = ys) = D:=⟨_,rfl⟩
 have HD:=hide hD
 rw [hD]
 clear hD
 by_cases hl:xs.length = ys.length
 ·have tl:((xs.length:Int) != (ys.length:Int)) = false:=bneFp (by omega)
  have HL:=hide hl
  clear hl
  go_enter Tryz.func20,Tryz.ntmps20
  go_wp2_with fail
  clear tl
  go_loopw [5] (fun iv wr => ∃ n:Nat,iv = .int .i64 n ∧ n ≤ xs.length ∧ Hid (xs.take n = ys.take n) ∧ ∃ m,wr = w.drewN m) (fun iv _ => xs.length - (intOf iv).toNat)
  case atStart => exact ⟨0,rfl,by omega,hide (by simp),0,rfl⟩
  case round =>
   obtain ⟨n0,rfl,hn0,HT0,m0,rfl⟩:=hrel
   by_cases hlt:n0 < xs.length
   ·have hlt2:n0 < ys.length:=by rw [← uh HL]; exact hlt
    obtain ⟨b,o,rfl,hb,hc⟩:=(uh A1).lies (by omega)
    obtain ⟨b',o',rfl,hb',hc'⟩:=(uh A2).lies (by omega)
    have hi:(n0:Int) < (xs.length:Int):=by omega
    have hi2:(n0:Int) < (ys.length:Int):=by omega
    have k1:w.cell? ⟨b,o + n0,none⟩ = some (.int .u8 (xs.getD n0 0)):=hc n0 hlt
    have k2:w.cell? ⟨b',o' + n0,none⟩ = some (.int .u8 (ys.getD n0 0)):=hc' n0 hlt2
    have TE:=hide (fun e => take_eq6 hlt hlt2 (uh HT0) e)
    have TN:Hid (¬ xs.getD n0 0 = ys.getD n0 0 → ¬ xs = ys):=hide (fun e h => e (by rw [h]))
    clear hc hc' hlt2 HT0
    generalize xs.getD n0 0 = x at k1 TE TN
    generalize ys.getD n0 0 = y at k2 TE TN
    by_cases hxy:x = y
    ·have HT2:=hide (uh TE hxy)
     subst hxy
     clear TE TN
     go_wp2_with fail
     go_quiet (fail)
     go_wp2_with fail
     go_roundw
     case rel => exact ⟨n0 + 1,by go_num,by omega,HT2,_,rfl⟩
     case measure => simp [intOf]; omega
    ·have hne:(x == y) = false:=by simp [hxy]
     have HNE:Hid (¬ xs = ys):=hide (fun h => uh TN hxy h)
     clear TE TN hxy
     go_wp2_with fail
     go_quiet (fail)
     go_wp2_with fail
     go_ret
     exact ⟨ret_bool (by rw [← uh HD]; exact (decide_eq_false (uh HNE)).symm),bw_drew (bw_drew (Below.refl _ _) _) _⟩
   ·have hi:¬ (n0:Int) < (xs.length:Int):=by omega
    have Q0:=hide (take_all6 (uh HL) (show n0 = xs.length by omega) (uh HT0))
    clear HT0
    go_wp2_with fail
    go_ret
    exact ⟨ret_bool (by rw [← uh HD]; exact (decide_eq_true (uh Q0)).symm),bw_drew (Below.refl _ _) _⟩
 ·have tl:((xs.length:Int) != (ys.length:Int)) = true:=bneTp (by omega)
  have HNE:Hid (¬ xs = ys):=hide (fun h => hl (by rw [h]))
  clear hl
  go_enter Tryz.func20,Tryz.ntmps20
  go_wp2_with fail
  go_ret
  exact ⟨ret_bool (by rw [← uh HD]; exact (decide_eq_false (uh HNE)).symm),Below.refl _ _⟩
structure FA where
 n:Int
 wr:Int
 x:Int
 d:List Int
 q:Option Addr
 c:Nat
def noFA:FA:=⟨0,0,0,[],none,0⟩
def FA.f (a:FA):Fld:=(a.n,a.wr,a.x,a.d)
def faCells (a:FA):List Value:=[.int .i64 a.n,.int .i64 a.wr,.int .u64 a.x,.slice a.q a.d.length a.c]
def faV (a:FA):Value:=.agg #[.int .i64 a.n,.int .i64 a.wr,.int .u64 a.x,.slice a.q a.d.length a.c]
def FaIn (w:World) (a:FA):Prop:=(Lit.int .i64 a.n).wf = true ∧ (Lit.int .i64 a.wr).wf = true ∧ (Lit.int .u64 a.x).wf = true ∧ Ints .u8 w a.q a.c a.d
theorem FaIn.below {w w':World} {a:FA} (h:FaIn w a) (hb:Below w.heap.size w w'):FaIn w' a:=⟨h.1,h.2.1,h.2.2.1,h.2.2.2.below hb⟩
theorem u64_range {x:Int} (h:(Lit.int .u64 x).wf = true):0 ≤ x ∧ x < 18446744073709551616:=by
 simp [Lit.wf,IntKind.min,IntKind.max,IntKind.signed,IntKind.bits] at h
 omega
theorem FaIn.ok {w:World} {a:FA} (h:FaIn w a):okF a.f:=⟨(u64_range h.2.2.1).1,(u64_range h.2.2.1).2,wf_isB h.2.2.2.2.2.1⟩
theorem noFA_in (w:World):FaIn w noFA:=⟨rfl,rfl,rfl,⟨by simp [noFA],by simp [noFA],by simp [noFA],by simp [noFA],fun _ => rfl⟩⟩
def Flc (w:World) (p:Option Addr) (cap:Nat) (l:List FA):Prop :=
 l.length ≤ cap ∧ cap ≤ 9223372036854775807 ∧ (0 < l.length → ∃ b o,p = some ⟨b,o,none⟩ ∧ b < w.heap.size ∧ ∀ i,i < l.length → ∀ j u,(faCells (l.getD i noFA))[j]? = some u → w.cell? ⟨b,o + i * 4 + j,none⟩ = some u) ∧ (p = none → cap = 0)
theorem Flc.len {w:World} {p:Option Addr} {cap:Nat} {l:List FA} (h:Flc w p cap l):l.length ≤ 9223372036854775807:=Nat.le_trans h.1 h.2.1
theorem Flc.below {w w':World} {p:Option Addr} {cap:Nat} {l:List FA} (h:Flc w p cap l) (hb:Below w.heap.size w w'):Flc w' p cap l:=by
 obtain ⟨h1,h2,h4,h5⟩:=h
 refine ⟨h1,h2,fun hp => ?_,h5⟩
 obtain ⟨b,o,e,g1,g2⟩:=h4 hp
 exact ⟨b,o,e,Nat.lt_of_lt_of_le g1 hb.size,fun i hi j u hu => (hb.cell (p:=⟨b,o + i * 4 + j,none⟩) g1).trans (g2 i hi j u hu)⟩
theorem Flc.at {w:World} {p:Option Addr} {cap:Nat} {l:List FA} (h:Flc w p cap l) {i:Nat} (hi:i < l.length):∃ b o,p = some ⟨b,o,none⟩ ∧ b < w.heap.size ∧ w.cell? ⟨b,o + i * 4,none⟩ = some (.int .i64 (l.getD i noFA).n) ∧ w.cell? ⟨b,o + i * 4 + 1,none⟩ = some (.int .i64 (l.getD i noFA).wr) ∧ w.cell? ⟨b,o + i * 4 + 2,none⟩ = some (.int .u64 (l.getD i noFA).x) ∧ w.cell? ⟨b,o + i * 4 + 3,none⟩ = some (.slice (l.getD i noFA).q (l.getD i noFA).d.length (l.getD i noFA).c):=by
 obtain ⟨b,o,e,g1,g2⟩:=h.2.2.1 (by omega)
 exact ⟨b,o,e,g1,g2 i hi 0 _ rfl,g2 i hi 1 _ rfl,g2 i hi 2 _ rfl,g2 i hi 3 _ rfl⟩
def Fls (w:World) (p:Option Addr) (cap:Nat) (l:List FA):Prop:=Flc w p cap l ∧ ∀ a ∈ l,FaIn w a
theorem Fls.below {w w':World} {p:Option Addr} {cap:Nat} {l:List FA} (h:Fls w p cap l) (hb:Below w.heap.size w w'):Fls w' p cap l:=⟨h.1.below hb,fun a ha => (h.2 a ha).below hb⟩
theorem getD_memF {l:List FA} {i:Nat} (h:i < l.length):l.getD i noFA ∈ l:=by
 rw [List.getD_eq_getElem?_getD,List.getElem?_eq_getElem h]; simp
def OwnF (t:TypeId) (w wr:World) (v:Value) (l:List FA):Prop:=wr.ownsRow w.heap.size t 4 v l.length (l.flatMap faCells) ∧ Below w.heap.size w wr
theorem OwnF.nil (t:TypeId) (w wr:World) (h:Below w.heap.size w wr):OwnF t w wr (.slice none 0 0) []:=⟨World.ownsRow_nil _ _ _ _,h⟩
theorem OwnF.below {t:TypeId} {w wr w':World} {v:Value} {l:List FA} (h:OwnF t w wr v l) (hb:Below wr.heap.size wr w'):OwnF t w w' v l:=by
 obtain ⟨⟨l1,h1⟩,h2⟩:=h
 refine ⟨⟨l1,?_⟩,bl_tr h2 hb⟩
 rcases h1 with ⟨rfl,h0⟩ | ⟨g,cap,cur,rfl,hb1,hh,hc,hm,hs,ht⟩
 ·exact .inl ⟨rfl,h0⟩
 ·refine .inr ⟨g,cap,cur,rfl,hb1,?_,hc,hm,hs,ht⟩
  rw [hb.block g ?_]; exact hh
  rcases Nat.lt_or_ge g wr.heap.size with h | h
  ·exact h
  ·rw [Array.getElem?_eq_none h] at hh; cases hh
theorem fa_len (a:FA):(faCells a).length = 4:=rfl
theorem fa_one (a:FA):∀ u ∈ faCells a,u.oneCell' = true:=by
 intro u hu
 simp [faCells] at hu
 rcases hu with rfl | rfl | rfl | rfl <;> rfl
theorem fl_get:∀ (l:List FA) (i j:Nat),i < l.length → j < 4 → (l.flatMap faCells)[i * 4 + j]? = (faCells (l.getD i noFA))[j]?
 | [],i,j,h,_ => by simp at h
 | a :: r,0,j,h,hj => by
   simp only [List.flatMap_cons,Nat.zero_mul,Nat.zero_add]
   rw [List.getElem?_append_left (by rw [fa_len]; exact hj)]
   rfl
 | a :: r,i + 1,j,h,hj => by
   simp only [List.flatMap_cons]
   rw [List.getElem?_append_right (by rw [fa_len]; omega),fa_len,show (i + 1) * 4 + j - 4 = i * 4 + j by omega,fl_get r i j (by simpa using h) hj]
   rfl
theorem OwnF.form {t:TypeId} {w wr:World} {v:Value} {l:List FA} (h:OwnF t w wr v l):∃ p cap,v = .slice p l.length cap ∧ Flc wr p cap l ∧ Fresh w.heap.size wr p (l.length * 4):=by
 obtain ⟨⟨l1,h1⟩,h2⟩:=h
 have h0:wr.ownsRow w.heap.size t 4 v l.length (l.flatMap faCells):=⟨l1,h1⟩
 rcases h1 with ⟨rfl,hn⟩ | ⟨g,cap,cur,rfl,hb,hh,hc,hm,hs,ht⟩
 ·exact ⟨none,0,by rw [hn],⟨by omega,by omega,fun hp => by omega,fun _ => rfl⟩,fun b o e => by cases e⟩
 ·refine ⟨some ⟨g,0,none⟩,cap,rfl,⟨hc,hm,fun hp => ⟨g,0,rfl,(h0.lt g rfl).2,fun i hi j u hu => ?_⟩,fun h => by cases h⟩,fun b o e hp => ?_⟩
  ·have hj:j < 4:=by
    have:=(List.getElem?_eq_some_iff.1 hu).1
    rw [fa_len] at this; exact this
   have e:cur.toList[i * 4 + j]? = some u:=by
    have e1:(cur.toList.take (l.length * 4))[i * 4 + j]? = cur.toList[i * 4 + j]?:=List.getElem?_take_of_lt (by omega)
    rw [← e1,ht,fl_get l i j hi hj,hu]
   simp [World.cell?,hh]
   simpa using e
  ·simp only [Option.some.injEq,Addr.mk.injEq] at e
   obtain ⟨rfl,rfl,_⟩:=e
   exact ⟨hb,fun i _ => h0.frozenAt (0 + i)⟩
theorem wpList_append_fld {P:Program} {w:World} {ops:Array Oper} {rest:List Oper} {o:Oper} {a:Act} {Q:Exit → Act → World → Prop} (hgd:o.guard = none) (s x:Operand) (t:TypeId)
  (ho:o.op = .call { callee:=.builtin .append,args:=#[s,x],argTypes:=#[t,t] })
  (w0:World) (e:TypeId) (i:TypeInfo) (z:Value) (bytes:Nat) (ht:P.underlying t = some (.slice e)) (hi:P.info? e = some i) (hz:i.zero = some z)
  (hsize:i.size = 4) (hby:i.bytes = bytes) (hzs:z.cells.size = 4)
  (v:Value) (l:List FA) (hs:a.eval s = v) (hown:OwnF e w0 w v l)
  (ad:Addr) (c:Nat) (f:FA) (hx:a.eval x = .slice (some ad) 1 c) (hc:∀ j u,(faCells f)[j]? = some u → w.cell? (ad.add j) = some u)
  (h63:l.length + 1 ≤ maxLen) (hbytes:(l.length + 1) * bytes ≤ 140737488355328)
  (h:∀ v' w',OwnF e w0 w' v' (l ++ [f]) → wpList P ops Q rest (a.put o.dst v') w'):wpList P ops Q (o :: rest) a w:=by
 refine wpList_append_own w hgd s x t ho w0.heap.size e i z 4 bytes ht hi hz hsize hby hzs (by decide) v l.length (l.flatMap faCells) hs hown.1 ad 1 c (faCells f) hx (by rw [fa_len]) hc (fa_one f) h63 hbytes hown.2.size ?_
 intro v' w' h1 h2 _
 refine h v' w' ⟨?_,hown.2.grown h2 hown.2.size (fun k hk => (hown.1.lt k hk).1)⟩
 have e1:(l ++ [f]).length = l.length + 1:=by simp
 have e2:(l ++ [f]).flatMap faCells = l.flatMap faCells ++ faCells f:=by simp
 rw [e1,e2]; exact h1
theorem wpList_append_fldG {P:Program} {w:World} {ops:Array Oper} {rest:List Oper} {o:Oper} {a:Act} {Q:Exit → Act → World → Prop} (hgd:o.guard = none) (s x:Operand) (t:TypeId)
  (ho:o.op = .call { callee:=.builtin .append,args:=#[s,x],argTypes:=#[t,t] })
  (w0:World) (e:TypeId) (i:TypeInfo) (z:Value) (bytes:Nat) (ht:P.underlying t = some (.slice e)) (hi:P.info? e = some i) (hz:i.zero = some z)
  (hsize:i.size = 4) (hby:i.bytes = bytes) (hzs:z.cells.size = 4)
  (v:Value) (l:List FA) (hs:a.eval s = v) (hown:OwnF e w0 w v l)
  (ad:Addr) (c:Nat) (f:FA) (hx:a.eval x = .slice (some ad) 1 c) (hc:∀ j u,(faCells f)[j]? = some u → w.cell? (ad.add j) = some u)
  (h63:l.length + 1 ≤ maxLen) (hbytes:(l.length + 1) * bytes ≤ 140737488355328)
  (h:∀ v' w',OwnF e w0 w' v' (l ++ [f]) → w.grownBy w' v.ownBlock → wpList P ops Q rest (a.put o.dst v') w'):wpList P ops Q (o :: rest) a w:=by
 refine wpList_append_own w hgd s x t ho w0.heap.size e i z 4 bytes ht hi hz hsize hby hzs (by decide) v l.length (l.flatMap faCells) hs hown.1 ad 1 c (faCells f) hx (by rw [fa_len]) hc (fa_one f) h63 hbytes hown.2.size ?_
 intro v' w' h1 h2 _
 refine h v' w' ⟨?_,hown.2.grown h2 hown.2.size (fun k hk => (hown.1.lt k hk).1)⟩ h2
 have e1:(l ++ [f]).length = l.length + 1:=by simp
 have e2:(l ++ [f]).flatMap faCells = l.flatMap faCells ++ faCells f:=by simp
 rw [e1,e2]; exact h1
theorem fa_alloc (w:World) (f:FA) (t:TypeId):∀ j u,(faCells f)[j]? = some u → (w.alloc (.cells #[.int .i64 f.n,.int .i64 f.wr,.int .u64 f.x,.slice f.q f.d.length f.c] t)).cell? ((⟨w.heap.size,0,none⟩:Addr).add j) = some u:=by
 intro j u hu
 rw [Go.WideShapes.add_plain]
 have:=Box.cell (Box.new w #[.int .i64 f.n,.int .i64 f.wr,.int .u64 f.x,.slice f.q f.d.length f.c] t) (0 + j)
 rw [this,Nat.zero_add]
 unfold faCells at hu
 rw [← hu]
 simp
theorem Tryz.infoCF:(Tryz.prog.info? 148).map (fun i => (i.zero,i.size,i.bytes)) = some (some (.agg #[.int .i64 0,.int .i64 0,.int .u64 0,.slice none 0 0]),4,48):=by kernel_rfl
theorem Box.set4 {w:World} {g:Nat} {a b c d:Value} {t:TypeId} (h:Box w g #[a,b,c,d] t) (u0 u1 u2 u3:Value) :
  Box ((((w.setCell ⟨g,0,none⟩ u0).setCell ⟨g,1,none⟩ u1).setCell ⟨g,2,none⟩ u2).setCell ⟨g,3,none⟩ u3) g #[u0,u1,u2,u3] t :=
 (((h.same 0 u0).same 1 u1).same 2 u2).same 3 u3
theorem bset4 {B:Nat} {a w:World} (h:Below B a w) {g:Nat} (hg:B ≤ g) (u0 u1 u2 u3:Value) :
  Below B a ((((w.setCell ⟨g,0,none⟩ u0).setCell ⟨g,1,none⟩ u1).setCell ⟨g,2,none⟩ u2).setCell ⟨g,3,none⟩ u3) :=
 (((h.setCell hg u0).setCell hg u1).setCell hg u2).setCell hg u3
def allA (l:List FA) (num:Int):List FA:=l.filter (fun a => a.n == num)
theorem allA_f (l:List FA) (num:Int):(allA l num).map FA.f = allV (l.map FA.f) num:=by
 unfold allA allV
 rw [List.filter_map]
 rfl
theorem allA_take (l:List FA) (num:Int) (n:Nat) (h:n < l.length):allA (l.take (n + 1)) num = allA (l.take n) num ++ (if (l.getD n noFA).n == num then [l.getD n noFA] else []):=by
 unfold allA
 rw [List.take_add_one,List.filter_append,List.getD_eq_getElem?_getD]
 rw [List.getElem?_eq_getElem h]
 simp [List.filter_cons]
theorem allA_len (l:List FA) (num:Int) (n:Nat):(allA (l.take n) num).length ≤ n:=by
 unfold allA
 have:=List.length_filter_le (fun a => a.n == num) (l.take n)
 rw [List.length_take] at this
 omega
theorem any_map (P:Fld → Bool) (l:List FA):(l.map FA.f).any P = l.any (fun a => P a.f):=by rw [List.any_map]; rfl
theorem wp_region_below {P:Program} {id:Nat} {Q:Exit → Act → World → Prop} {a:Act} {w:World} {l:List Oper} (hm:P.follows .mixedOrders = true) (hB:Region.lexB .any l.toArray = true)
  (h:∀ (T:Type) (f:T → World),Nonempty T → (∀ x,Below w.heap.size w (f x)) → (∀ w',Below w.heap.size w w' → ∃ x,w' = f x) →
   wpQuiet P l.toArray (fun w' => ∃ x,w' = f x) (fun a' => ∀ x,Q .normal a' (f x)) l a):(Code.region id l.toArray true).wp P Q a w:=by
 have h2:=h { w':World // Below w.heap.size w w' } Subtype.val ⟨⟨w,Below.refl _ _⟩⟩ (fun x => x.2) (fun w' hw => ⟨⟨w',hw⟩,rfl⟩)
 refine wp_region_quiet (C:=fun w' => ∃ x:{ w':World // Below w.heap.size w w' },w' = x.1) hm hB ⟨⟨w.drew,(Below.refl _ _).drew⟩,rfl⟩ ?_
 have e:(fun a' => ∀ w',(∃ x:{ w':World // Below w.heap.size w w' },w' = x.1) → Q .normal a' w') = (fun a' => ∀ x:{ w':World // Below w.heap.size w w' },Q .normal a' x.1):=by
  funext a'
  exact propext ⟨fun g x => g x.1 ⟨x,rfl⟩,fun g w' ⟨x,hx⟩ => hx ▸ g x⟩
 rw [e]
 exact h2
theorem calls_qb {P:Program} {g:FuncId} {args:Array Value} {v:Value} {T:Type} {f:T → World} {W:World} (hfb:∀ x,Below W.heap.size W (f x)) (hfc:∀ w',Below W.heap.size W w' → ∃ x,w' = f x) {x:T}
  (h:Calls P g args (f x) fun e w' => e = .returned v ∧ Below (f x).heap.size (f x) w'):Calls P g args (f x) fun e w'' => e = .returned v ∧ ∃ y,w'' = f y :=
 h.mono fun _ _ ⟨he,hb⟩ => ⟨he,hfc _ ((hfb x).trans (hb.mono (hfb x).size))⟩
theorem calls_qs {P:Program} {g:FuncId} {args:Array Value} {v:Value} {T:Type} {f:T → World} {x:T}
  (h:Calls P g args (f x) fun e w' => e = .returned v ∧ w' = f x):Calls P g args (f x) fun e w'' => e = .returned v ∧ ∃ y,w'' = f y :=
 h.mono fun _ _ ⟨he,hb⟩ => ⟨he,x,hb⟩
end Go.Proofs.YtmdlaahdgjegcaaGreat
