import Derived.WalkMore
import Derived.Test.YtbmmcbagdomonaaGreatV41
set_option maxRecDepth 100000
set_option maxHeartbeats 40000000
namespace Go.Proofs.YtbmmcbagdomonaaGreat
open Go.RowKit
set_option linter.unusedVariables false
set_option linter.unusedSimpArgs false
theorem range_succ9 (a:Int) (n:Nat):rangeG a (n + 1) = rangeG a n ++ [a + n]:=by
 unfold rangeG
 rw [List.range_succ,List.map_append]
 rfl
theorem range_len9 (a:Int) (n:Nat):(rangeG a n).length = n:=by unfold rangeG; simp
theorem cinputs9_any (x:MoA) (w:World) (h1:x.inits.length ≤ 1024) (h2:x.inp.length ≤ 64) :
  Calls Tryz.prog 25 #[moV x] w fun e w' => ∃ v,e = .returned v ∧ RowI w' w.heap.size v (rangeG x.inits.length x.inp.length) ∧ Below w.heap.size w w':=by
 obtain ⟨i1,hi1,y1,z1,b1⟩:=info_parts Tryz.info8int
 obtain ⟨ops,nm,nodes,qn,cn,inits,qi,ci,inp,qp,cp,out,qo,co⟩:=x
 unfold moV moCells strV
 simp only at h1 h2 ⊢
 go_enter Tryz.func25,Tryz.ntmps25
 obtain ⟨W,hW⟩:∃ W,w.alloc (.cells #[.int .i64 ops,.string (strOfNums nm),.slice qn nodes.length cn,.slice qi inits.length ci,.slice qp inp.length cp,.slice qo out.length co] 26) = W:=⟨_,rfl⟩
 have X:Hid (Box W w.heap.size #[.int .i64 ops,.string (strOfNums nm),.slice qn nodes.length cn,.slice qi inits.length ci,.slice qp inp.length cp,.slice qo out.length co] 26):=hide (by rw [← hW]; exact Box.new _ _ _)
 have BW:Hid (Below w.heap.size w W):=hide (by rw [← hW]; exact al1p _ _)
 have XW:Hid (w.heap.size < W.heap.size):=hide (uh X).lt
 have x1:=(uh X).cell
 have xl:=(uh X).lt
 go_wp2_with (first | (rw [hW]; clear hW) | fail)
 clear x1 xl
 go_loopw [3,8] (fun vv iv wr => ∃ n:Nat,iv = .int .i64 n ∧ n ≤ inp.length ∧ Hid (RowI wr W.heap.size vv (rangeG inits.length n)) ∧ Hid (Below W.heap.size W wr)) (fun _ iv _ => inp.length - (intOf iv).toNat)
 case atStart => exact ⟨0,rfl,by omega,hide (RowI.nil _ _),hide (Below.refl _ _)⟩
 case round =>
  obtain ⟨n,rfl,hn,HRI,BK⟩:=hrel
  have X1:=hide ((uh X).below (uh BK))
  have x2:=(uh X1).cell
  have xl2:=(uh X1).lt
  have hbk:=(uh BK).size
  by_cases hlt:n < inp.length
  ·have hi:(n:Int) < (inp.length:Int):=by omega
   have HFL:Hid ((rangeG inits.length n).length = n):=hide (range_len9 _ _)
   have HFA:=hide (range_succ9 (inits.length:Int) n)
   obtain ⟨F1,hF1⟩:∃ F1,rangeG (inits.length:Int) (n + 1) = F1:=⟨_,rfl⟩
   have HF1:=hide hF1
   rw [hF1] at HFA
   clear hF1
   generalize rangeG (inits.length:Int) n = Fk at HRI HFL HFA
   go_wp2_with (at_builtin; (refine wpList_append_num rfl _ _ 30 rfl W.heap.size i1 Tryz.underlying30 hi1 y1 z1 b1 _ Fk rfl ((uh HRI).below (al1p _ _)) ⟨wr.heap.size,0,none⟩ 1 ((inits.length:Int) + n) rfl (cell_new9 _ _ _) (by rw [uh HFL]; omega) (by simp; omega) ?_; intro v7 w7 r7 g7 l7; rw [← uh HFA] at r7; have RI7:=hide r7; have B7:Hid (Below W.heap.size W w7):=hide (gr_bel (bl_tr (uh BK) (al1p _ _)) g7 (fun j hj => ((uh HRI).lt9 j hj).1)); clear r7 g7 l7))
   go_roundw
   case rel => exact ⟨n + 1,by go_num,by omega,hide (by rw [uh HF1]; exact uh RI7),B7⟩
   case measure => simp [intOf]; omega
  ·have hi:¬ (n:Int) < (inp.length:Int):=by omega
   have e0:n = inp.length:=by omega
   subst e0
   go_wp2_with fail
   exact bodyPost_ret (results_tmp rfl _ _ _) rfl ⟨u3,rfl,(uh HRI).mono (uh BW).size,bl_tr (uh BW) (uh BK)⟩
def keepG (n:GnA):Bool:=decide (n.op ≠ 61)
theorem keep_no {n:GnA} (h:n.op = 61):keepG n = false:=by simp [keepG,h]
theorem keep_yes {n:GnA} (h:n.op ≠ 61):keepG n = true:=by simp [keepG,h]
theorem cwithout9_any (q:Option Addr) (c:Nat) (l:List GnA) (OK:Nat → Prop) (w:World) (h:Rg 40 gnCells noGnA GnIn OK w q c l) (hs:l.length ≤ 1024) :
  Calls Tryz.prog 27 #[.slice q l.length c] w fun e w' => ∃ v,e = .returned v ∧ OwnR 51 40 gnCells w w' v (l.filter keepG):=by
 obtain ⟨i1,hi1,y1,z1,b1⟩:=info_parts Tryz.info9Gn
 have HRG:=hide h
 have hlen:=h.1.len
 clear h
 go_enter Tryz.func27,Tryz.ntmps27
 go_wp2_with fail
 go_loopw [3,8] (fun vv iv wr => ∃ (n:Nat) (L:List GnA),iv = .int .i64 n ∧ n ≤ l.length ∧ Hid (OwnE 51 40 gnCells (fun _ _ _ => True) w wr vv L) ∧ Hid (L = (l.take n).filter keepG) ∧ Hid (L.length ≤ n)) (fun _ iv _ => l.length - (intOf iv).toNat)
 case atStart => exact ⟨0,[],rfl,by omega,hide (OwnE.nil (Below.refl _ _)),hide rfl,hide (by simp)⟩
 case round =>
  obtain ⟨n,L,rfl,hn,HO,HD,HL⟩:=hrel
  have BWR:Hid (Below w.heap.size w wr):=hide (uh HO).1.2
  by_cases hlt:n < l.length
  ·have hi:(n:Int) < (l.length:Int):=by omega
   obtain ⟨bg,og,hq,hbg,_⟩:=(uh HRG).1.lies (show 0 < l.length by omega)
   subst hq
   have A1:Hid (At8 wr bg (og + n * 40) (gnCells (l.getD n noGnA))):=hide (Rc.at9 ((uh HRG).1.below (uh BWR)) hlt)
   have HF2:Hid ((l.take (n + 1)).filter keepG = (l.take n).filter keepG ++ (if (l.getD n noGnA).op ≠ 61 then [l.getD n noGnA] else [])):=hide (by
    rw [List.take_add_one,List.filter_append,List.getD_eq_getElem?_getD,List.getElem?_eq_getElem hlt]
    simp only [Option.toList_some,Option.getD_some]
    by_cases g:(l[n]).op = 61
    ·simp [g,keep_no g]
    ·simp [g,keep_yes g])
   generalize (l.getD n noGnA) = x9 at A1 HF2
   have hll:=uh HL
   by_cases h61:x9.op = 61
   ·have t61:(x9.op != 61) = false:=by simp [h61]
    have HF3:=hide (show (l.take (n + 1)).filter keepG = (l.take n).filter keepG by rw [uh HF2,if_neg (by simp [h61])]; simp)
    clear h61
    go_wp2_with (first
     | (refine wpList_isLoad 51 rfl ?_; refine wpList_loadG aggGn rfl _ rfl rfl (gnWd.2.1 x9) (uh A1) ?_)
     | (refine wpList_isStore 51 rfl ?_; (refine wpList_storeG aggGn rfl _ _ rfl rfl rfl (Box.new wr gnZc 51) (gnSize x9) rfl (gnWd.ones x9) ?_; intro w5 b5 s5 z5; have G5:=hide b5; have B5:Hid (Below wr.heap.size wr w5):=hide (bl_tr7 (al1p _ _) s5.1); have v0:w5.cell? ⟨wr.heap.size,0,none⟩ = some (.int .i64 x9.op):=((uh G5).cell 0).trans rfl; have O5:=hide ((uh HO).below ⟨fun _ _ => trivial,fun _ _ => trivial⟩ (uh B5)); clear b5 s5 z5)))
    go_roundw
    case rel => exact ⟨n + 1,L,by go_num,by omega,O5,hide (by rw [uh HF3]; exact uh HD),hide (by omega)⟩
    case measure => simp [intOf]; omega
   ·have t61:(x9.op != 61) = true:=by simp [h61]
    have HF3:=hide (show (l.take (n + 1)).filter keepG = (l.take n).filter keepG ++ [x9] by rw [uh HF2,if_pos h61])
    clear h61
    go_wp2_with (first
     | (refine wpList_isLoad 51 rfl ?_; refine wpList_loadG aggGn rfl _ rfl rfl (gnWd.2.1 x9) (uh A1) ?_)
     | (refine wpList_isLoad 51 rfl ?_; refine wpList_loadG aggGn rfl _ rfl rfl (gnWd.2.1 x9) (uh A5) ?_)
     | (refine wpList_isStore 51 rfl ?_; (refine wpList_storeG aggGn rfl _ _ rfl rfl rfl (Box.new wr gnZc 51) (gnSize x9) rfl (gnWd.ones x9) ?_; intro w5 b5 s5 z5; have G5:=hide b5; have B5:Hid (Below wr.heap.size wr w5):=hide (bl_tr7 (al1p _ _) s5.1); have v0:w5.cell? ⟨wr.heap.size,0,none⟩ = some (.int .i64 x9.op):=((uh G5).cell 0).trans rfl; have A5:Hid (At8 w5 wr.heap.size 0 (gnCells x9)):=hide (by simpa using At8.box b5); have O5:=hide ((uh HO).below ⟨fun _ _ => trivial,fun _ _ => trivial⟩ (uh B5)); clear b5 s5 z5))
     | ((refine wpList_slice1 rfl 29 51 _ rfl (gnCells x9).toArray rfl i1 gnZ 40 Tryz.underlying29 hi1 y1 z1 (gnSize x9) (by omega) (by omega) ?_))
     | (at_builtin; (refine wpList_append_el gnWd ⟨fun _ _ => trivial,fun _ _ => trivial⟩ rfl _ _ 29 rfl w 51 i1 gnZ 432 Tryz.underlying29 hi1 y1 z1 b1 rfl _ L rfl ((uh O5).below ⟨fun _ _ => trivial,fun _ _ => trivial⟩ (al1p _ _)) ⟨w5.heap.size,0,none⟩ 1 x9 rfl (fun j u hj => by rw [Go.WideShapes.add_plain,Nat.zero_add,Box.cell (Box.new _ _ _)]; simpa using hj) trivial (by unfold maxLen; omega) (by omega) ?_; intro v8 w8 o8 g8 l8; have O8:=hide o8; clear o8 g8 l8)))
    go_roundw
    case rel => exact ⟨n + 1,_,by go_num,by omega,O8,hide (by rw [uh HF3,← uh HD]),hide (by rw [List.length_append,List.length_singleton]; omega)⟩
    case measure => simp [intOf]; omega
  ·have hi:¬ (n:Int) < (l.length:Int):=by omega
   have e0:n = l.length:=by omega
   subst e0
   rw [List.take_length] at HD
   go_wp2_with fail
   exact bodyPost_ret (results_tmp rfl _ _ _) rfl ⟨u3,rfl,by rw [← uh HD]; exact (uh HO).1⟩
def remG:List GnD → List Bool → List GnD
 | n :: r,b :: s => if b = true then remG r s else n :: remG r s
 | _,_ => []
def noGnD:GnD:=⟨0,zeroD,[],[],0⟩
theorem rem_all:∀ (N:List GnD),remG N (List.replicate N.length false) = N
 | [] => rfl
 | n :: r => by
   show (if (false:Bool) = true then _ else n :: remG r (List.replicate r.length false)) = _
   rw [if_neg (by decide),rem_all r]
theorem pick_at:∀ (N:List GnD) (st:List Bool) (dl:List Bool) (i:Nat),st.length = N.length → i < N.length → st.getD i false = false → (∀ j,j < i → st.getD j false = true ∨ readyG dl (N.getD j noGnD).ins = false) → readyG dl (N.getD i noGnD).ins = true →
  pickG dl (remG N st) = some (N.getD i noGnD,remG N (st.set i true))
 | [],st,dl,i,h1,h2,_,_,_ => by simp at h2
 | n :: r,[],dl,i,h1,_,_,_,_ => by simp at h1
 | n :: r,b :: s,dl,0,h1,h2,h3,h4,h5 => by
   have e:b = false:=h3
   subst e
   have h5':readyG dl n.ins = true:=h5
   simp only [remG,Bool.false_eq_true,if_false,List.set_cons_zero,if_true]
   unfold pickG
   rw [if_pos h5']
   rfl
 | n :: r,b :: s,dl,i + 1,h1,h2,h3,h4,h5 => by
   have ih:=pick_at r s dl i (by simpa using h1) (by simpa using h2) h3 (fun j hj => h4 (j + 1) (by omega)) h5
   have h0:=h4 0 (by omega)
   simp only [remG,List.set_cons_succ]
   by_cases hb:b = true
   ·rw [if_pos hb,if_pos hb,ih]; rfl
   ·rw [if_neg hb,if_neg hb]
    have hr:readyG dl n.ins = false:=by
     rcases h0 with e | e
     ·exact absurd e hb
     ·exact e
    unfold pickG
    rw [if_neg (by rw [hr]; decide),ih]
    rfl
theorem pick_no:∀ (N:List GnD) (st:List Bool) (dl:List Bool),st.length = N.length → (∀ j,j < N.length → st.getD j false = true ∨ readyG dl (N.getD j noGnD).ins = false) → pickG dl (remG N st) = none
 | [],st,dl,h1,h2 => by cases st <;> rfl
 | n :: r,[],dl,h1,_ => by simp at h1
 | n :: r,b :: s,dl,h1,h2 => by
   have ih:=pick_no r s dl (by simpa using h1) (fun j hj => h2 (j + 1) (by simpa using hj))
   have h0:=h2 0 (by simp)
   simp only [remG]
   by_cases hb:b = true
   ·rw [if_pos hb]; exact ih
   ·rw [if_neg hb]
    have hr:readyG dl n.ins = false:=by
     rcases h0 with e | e
     ·exact absurd e hb
     ·exact e
    unfold pickG
    rw [if_neg (by rw [hr]; decide),ih]
theorem pick_len:∀ (l:List GnD) (dl:List Bool) {x:GnD} {l':List GnD},pickG dl l = some (x,l') → l.length = l'.length + 1
 | [],dl,x,l',h => by cases h
 | n :: r,dl,x,l',h => by
   unfold pickG at h
   by_cases g:readyG dl n.ins = true
   ·rw [if_pos g] at h; cases h; rfl
   ·rw [if_neg g] at h
    cases e:pickG dl r with
    | none => rw [e] at h; cases h
    | some p =>
      obtain ⟨y,l2⟩:=p
      rw [e] at h
      simp only [Option.some.injEq,Prod.mk.injEq] at h
      rw [← h.2,List.length_cons,List.length_cons,pick_len r dl e]
theorem rem_head:∀ (N:List GnD) (st:List Bool),st.length = N.length → 0 < (remG N st).length → ∃ i:Nat,idxI (fun b:Bool => decide (b = false)) st = i ∧ i < N.length ∧ ∃ r,remG N st = N.getD i noGnD :: r
 | [],st,h1,h2 => by cases st <;> simp [remG] at h2
 | n :: r,[],h1,_ => by simp at h1
 | n :: r,b :: s,h1,h2 => by
   simp only [remG] at h2 ⊢
   by_cases hb:b = true
   ·rw [if_pos hb] at h2 ⊢
    obtain ⟨i,e,hi,r',hr⟩:=rem_head r s (by simpa using h1) h2
    refine ⟨i + 1,?_,by simpa using hi,r',hr⟩
    unfold idxI
    rw [if_neg (by simp [hb]),if_neg (by rw [e]; omega),e]
    omega
   ·rw [if_neg hb]
    refine ⟨0,?_,by simp,_,rfl⟩
    unfold idxI
    rw [if_pos (by simpa using hb)]
    rfl
theorem kahn_some {k:Nat} {dl:List Bool} {row rem l:List GnD} {x:GnD} (h:pickG dl rem = some (x,l)):kahnG (k + 1) dl row rem = kahnG k (defG dl x.outs) (row ++ [x]) l:=by
 rw [kahnG,h]
theorem kahn_none {k:Nat} {dl:List Bool} {row rem:List GnD} (h:pickG dl rem = none):kahnG (k + 1) dl row rem = (row,rem):=by
 rw [kahnG,h]
def RowO (w:World) (base:Nat) (v:Value) (l:List GnA):Prop:=w.ownsRow base 51 40 v l.length (l.flatMap gnCells)
theorem RowO.nil (w:World) (base:Nat):RowO w base (.slice none 0 0) []:=⟨rfl,.inl ⟨rfl,rfl⟩⟩
theorem RowO.block {w w':World} {base:Nat} {v:Value} {l:List GnA} (h:RowO w base v l) (hb:∀ g,v.ownBlock = some g → w'.heap[g]? = w.heap[g]?):RowO w' base v l:=by
 obtain ⟨l1,h1⟩:=h
 refine ⟨l1,?_⟩
 rcases h1 with h1 | ⟨g,cap,cur,hv,hg,hh,hr⟩
 ·exact .inl h1
 ·exact .inr ⟨g,cap,cur,hv,hg,(hb g (by rw [hv]; rfl)).trans hh,hr⟩
theorem RowO.lt9 {w:World} {base:Nat} {v:Value} {l:List GnA} (h:RowO w base v l):∀ g,v.ownBlock = some g → base ≤ g ∧ g < w.heap.size:=fun g hg => World.ownsRow.lt h g hg
theorem RowO.below {w w':World} {base:Nat} {v:Value} {l:List GnA} (h:RowO w base v l) (hb:Below w.heap.size w w'):RowO w' base v l:=h.block (fun g hg => hb.block g (h.lt9 g hg).2)
theorem RowO.stay {w w':World} {base b:Nat} {v:Value} {l:List GnA} (h:RowO w base v l) (hs:Stay b w w') (hb:b < base):RowO w' base v l:=h.block (fun g hg => hs.block (by have:=(h.lt9 g hg).1; omega) (h.lt9 g hg).2)
theorem RowO.mono {w:World} {base base':Nat} {v:Value} {l:List GnA} (h:RowO w base v l) (hb:base' ≤ base):RowO w base' v l:=by
 obtain ⟨l1,h1⟩:=h
 refine ⟨l1,?_⟩
 rcases h1 with h1 | ⟨g,cap,cur,hv,hg,hr⟩
 ·exact .inl h1
 ·exact .inr ⟨g,cap,cur,hv,Nat.le_trans hb hg,hr⟩
theorem RowO.slice {w:World} {base:Nat} {v:Value} {l:List GnA} (h:RowO w base v l):∃ p c,v = .slice p l.length c:=by
 rcases h.2 with ⟨h1,h2⟩ | ⟨g,cap,cur,hv,_⟩
 ·exact ⟨none,0,by rw [h1,h2]⟩
 ·exact ⟨_,_,hv⟩
theorem RowO.own {w0 w:World} {base:Nat} {v:Value} {l:List GnA} (h:RowO w base v l) (hb:w0.heap.size ≤ base) (hw:Below w0.heap.size w0 w):OwnR 51 40 gnCells w0 w v l:=⟨h.mono hb,hw⟩
theorem wpList_append_gn {ops:Array Oper} {rest:List Oper} {o:Oper} {a:Act} {w:World} {Q:Exit → Act → World → Prop} (hgd:o.guard = none) (s x:Operand)
  (ho:o.op = .call { callee:=.builtin .append,args:=#[s,x],argTypes:=#[29,29] })
  (base:Nat) (v:Value) (l:List GnA) (hs:a.eval s = v) (hown:RowO w base v l)
  (ad:Addr) (c:Nat) (y:GnA) (hx:a.eval x = .slice (some ad) 1 c) (hc:∀ j u,(gnCells y)[j]? = some u → w.cell? (ad.add j) = some u)
  (hl:l.length ≤ 100000) (hbase:base ≤ w.heap.size)
  (h:∀ v' w',RowO w' base v' (l ++ [y]) → w.grownBy w' v.ownBlock → wpList Tryz.prog ops Q rest (a.put o.dst v') w'):wpList Tryz.prog ops Q (o :: rest) a w:=by
 obtain ⟨i1,hi1,y1,z1,b1⟩:=info_parts Tryz.info9Gn
 refine wpList_append_own_at w hgd s x 29 ho base 51 i1 gnZ 40 432 Tryz.underlying29 hi1 y1 z1 b1 rfl (by omega) v l.length (l.flatMap gnCells) hs hown ad 1 c (gnCells y) hx (by rw [gnWd.2.1,Nat.one_mul]) hc (gnWd.2.2 y) (by unfold maxLen; omega) (by omega) hbase ?_
 intro v' w' h1 h2 _ _
 refine h v' w' ?_ h2
 unfold RowO
 rw [List.length_append,List.flatMap_append]
 simpa using h1
theorem Bm.gr {w w':World} {b:Nat} {dl:List Bool} {row:Option Nat} (h:Bm w b dl) (m:w.grownBy w' row) (hne:row ≠ some b):Bm w' b dl:=(m.block b h.lt (fun e => hne e.symm)).trans h
theorem gr_of_stay {w w':World} {b:Nat} (h:Stay b w w'):w.grownBy w' (some b):=⟨h.1.os,h.1.tape,h.1.output,h.1.size,fun k hk hne => h.block (fun e => hne (by rw [e])) hk⟩
def sliceLen:Value → Nat
 | .slice _ n _ => n
 | _ => 0
theorem cidxB9_any (b:Nat) (l:List Bool) (w:World) (h:Bm w b l) (hl:l.length ≤ 1099511627776) :
  Calls Tryz.prog 58 #[.slice (some ⟨b,0,none⟩) l.length l.length,.bool false] w fun e w' => e = .returned (.int .i64 (idxI (fun b:Bool => decide (b = false)) l)) ∧ w' = w:=by
 have A1:=hide h
 have IF:=hide (idxI_found (fun b:Bool => decide (b = false)) default l)
 have IN:=hide (idxI_none (fun b:Bool => decide (b = false)) l)
 obtain ⟨I,hI⟩:∃ I,idxI (fun b:Bool => decide (b = false)) l = I:=⟨_,rfl⟩
 rw [hI] at IF IN ⊢
 clear h hI
 go_enter Tryz.func58,Tryz.ntmps58
 go_wp2_with fail
 go_loop [8] (fun iv => ∃ n:Nat,iv = .int .i64 n ∧ n ≤ l.length ∧ Hid ((l.take n).any (fun b:Bool => decide (b = false)) = false)) (fun iv => l.length - (intOf iv).toNat)
 case atStart => exact ⟨0,rfl,by omega,hide rfl⟩
 case round =>
  obtain ⟨n,rfl,hn,HN⟩:=hrel
  by_cases hlt:n < l.length
  ·have hi:(n:Int) < (l.length:Int):=by omega
   have k0:=(uh A1).at hlt
   have HT:=hide (any_take7 (fun b:Bool => decide (b = false)) default l n hlt)
   have HM:=hide (uh IF n hlt (uh HN))
   have hdef:(default:Bool) = false:=rfl
   rw [hdef] at HT HM
   clear hdef
   generalize l.getD n false = a at k0 HT HM
   cases a with
   | false =>
     have HI:Hid (I = n):=hide (uh HM rfl)
     clear HT HM HN
     go_wp2_with fail
     go_ret
     exact ⟨ret_int8 (uh HI).symm,rfl⟩
   | true =>
     have HN2:Hid ((l.take (n + 1)).any (fun b:Bool => decide (b = false)) = false):=hide (by rw [uh HT,uh HN]; rfl)
     clear HT HM HN
     go_wp2_with fail
     go_round
     case rel => exact ⟨n + 1,by go_num,by omega,HN2⟩
     case measure => simp [intOf]; omega
  ·have hi:¬ (n:Int) < (l.length:Int):=by omega
   have HE:Hid (I = -1):=hide (uh IN (by have:=uh HN; rw [List.take_of_length_le (by omega)] at this; exact this))
   clear HN
   go_wp2_with fail
   go_ret
   exact ⟨ret_int8 (uh HE).symm,rfl⟩
theorem Stay.drewN9 {b:Nat} {w w':World} (h:Stay b w w') (n:Nat):Stay b w (w'.drewN n):=⟨bl_tr7 h.1 ⟨rfl,rfl,rfl,Nat.le_refl _,fun _ _ => rfl⟩,h.2⟩
def ordV (K:List GnD × List GnD):Int × Int:=match K.2 with
 | [] => (0,0)
 | n :: _ => (12,n.src)
theorem cordered9_any (q:Option Addr) (c:Nat) (N:List GnA) (OK:Nat → Prop) (w:World) (h:Rg 40 gnCells noGnA GnIn OK w q c N) (b:Nat) (dl:List Bool) (hd:Bm w b dl) (hb:¬ OK b) (hl:dl.length ≤ 1099511627776) (hN:N.length ≤ 1024)
  (hin:∀ x ∈ N,(∀ v ∈ x.ins,v = -1 ∨ (0 ≤ v ∧ v < dl.length)) ∧ ∀ v ∈ x.outs,0 ≤ v ∧ v < dl.length) (K:List GnD × List GnD) (hK:K = kahnG N.length dl [] (N.map GnA.d)) :
  Calls Tryz.prog 26 #[.slice q N.length c,.slice (some ⟨b,0,none⟩) dl.length dl.length] w fun e w' => ∃ (p:Option Addr) (n c:Nat),e = .returned (.tuple #[.slice p n c,.int .i64 (ordV K).1,.int .i64 (ordV K).2]) ∧ ((ordV K).1 = 0 → ∃ L,RowO w' w.heap.size (.slice p n c) L ∧ L.map GnA.d = K.1 ∧ ∀ x ∈ L,x ∈ N) ∧ Stay b w w':=by
 obtain ⟨R,hR⟩:∃ R,ordV K = R:=⟨_,rfl⟩
 have HRV:=hide hR
 rw [hR]
 clear hR
 obtain ⟨i1,hi1,y1,z1,b1⟩:=info_parts Tryz.info9Gn
 obtain ⟨i2,hi2,y2,z2,b2⟩:=info_parts Tryz.info8bool
 have HRG:=hide h
 have HBM:=hide hd
 have HBO:=hide hb
 have HIN:=hide hin
 have HKK:=hide hK
 have hlen:=h.1.len
 have hbl:=hd.lt
 clear h hd hb hin hK
 go_enter Tryz.func26,Tryz.ntmps26
 go_wp2_with fail
 go_step3
 go_wp2_with (at_make; (refine wpList_make_full _ rfl _ _ 39 rfl w.heap.size 4 i2 (.bool false) 1 Tryz.underlying39 hi2 y2 z2 _ _ _ _ N.length rfl rfl (by omega) (by omega) (by rw [b2]; omega) (by unfold maxLen; omega) (by simp) ?_; intro w3 hown hgrow; have HM:Hid (Bm w3 w.heap.size (List.replicate N.length false)):=hide (by have:=Mrow.made bcWd8 false rfl hown; simpa [Bm] using this); have BB3:=hide ((Below.refl _ _).grown hgrow (Nat.le_refl _) (fun k hk => by cases hk)); clear hown hgrow))
 go_step3
 go_wp2_with fail
 obtain ⟨sb,hsb⟩:∃ sb,w.heap.size = sb:=⟨_,rfl⟩
 have HSB:=hide hsb
 have HBS:Hid (b < sb):=hide (by omega)
 rw [hsb] at HM BB3
 rw [hsb]
 have HSL:Hid (sb < w3.heap.size):=hide (uh HM).lt
 clear hsb hbl
 have HNL:=hide hlen
 clear hlen
 go_loopw [7] (fun rv wr => ∃ (LA:List GnA) (st dl':List Bool),LA.length ≤ N.length ∧ Hid (RowO wr w3.heap.size rv LA) ∧ Hid (∀ x ∈ LA,x ∈ N) ∧ Hid (Bm wr sb st) ∧ Hid (st.length = N.length) ∧ Hid (Bm wr b dl') ∧ Hid (dl'.length = dl.length) ∧ Hid (K = kahnG (N.length - LA.length) dl' (LA.map GnA.d) (remG (N.map GnA.d) st)) ∧ Hid ((remG (N.map GnA.d) st).length = N.length - LA.length) ∧ Hid (Stay b w wr) ∧ Hid (w3.heap.size ≤ wr.heap.size)) (fun rv _ => N.length - sliceLen rv)
 case atStart =>
  refine ⟨[],List.replicate N.length false,dl,by simp,hide (RowO.nil _ _),hide (fun x hx => by cases hx),HM,hide (by simp),hide ((uh HBM).below (by rw [uh HSB]; exact uh BB3)),hide rfl,hide ?_,hide ?_,hide (Stay.below (by rw [uh HSB]; exact uh BB3) (by rw [uh HSB]; exact Nat.le_of_lt (uh HBS))),hide (Nat.le_refl _)⟩
  ·have:=rem_all (N.map GnA.d)
   rw [List.length_map] at this
   rw [this]; exact uh HKK
  ·have:=rem_all (N.map GnA.d)
   rw [List.length_map] at this
   rw [this]; simp
 case round =>
  obtain ⟨LA,st,dl',hla,HRO,HLI,HST,HSTL,HDL,HDLL,HKA,HRL,HSY,HSZ⟩:=hrel
  obtain ⟨pr,cr,hrv⟩:=(uh HRO).slice
  subst hrv
  obtain ⟨u,hu⟩:∃ u,u = wr:=⟨_,rfl⟩
  subst hu
  have RGU:Hid (Rg 40 gnCells noGnA GnIn OK u q c N):=hide ((uh HRG).hold gnP (Hold.stay (uh HSY) (uh HBO)))
  have hnl:=uh HNL
  by_cases hlt:LA.length < N.length
  ·have hi:(LA.length:Int) < (N.length:Int):=by omega
   have HLT:=hide hlt
   go_wp2_with fail
   go_loopw [7,20] (fun rv iv wq => ∃ i:Nat,rv = .slice pr LA.length cr ∧ iv = .int .i64 i ∧ i ≤ N.length ∧ wq = u ∧ Hid (∀ j,j < i → st.getD j false = true ∨ readyG dl' ((N.map GnA.d).getD j noGnD).ins = false)) (fun _ iv _ => N.length - (intOf iv).toNat)
   case atStart => exact ⟨0,rfl,rfl,by omega,rfl,hide (fun j hj => absurd hj (by omega))⟩
   case round =>
    obtain ⟨i,rfl,rfl,hi2,hw,HJ⟩:=hrel
    subst hw
    by_cases hlt2:i < N.length
    ·have hi3:(i:Int) < (N.length:Int):=by omega
     obtain ⟨bg,og,hq,hbg,_⟩:=(uh HRG).1.lies (show 0 < N.length by omega)
     have A1:Hid (At8 wr bg (og + i * 40) (gnCells (N.getD i noGnA))):=hide (Rc.at9 (by have:=(uh RGU).1; rw [hq] at this; exact this) hlt2)
     have HGW:Hid (GnIn OK w (N.getD i noGnA)):=hide ((uh HRG).2.2 _ (getD_mem9 hlt2))
     have HGI:Hid (GnIn OK wr (N.getD i noGnA)):=hide ((uh RGU).2.2 _ (getD_mem9 hlt2))
     have HA8:=hide (fun v (hv:Hold OK w v) => Rc.at9 (show Rc 40 gnCells noGnA v (some ⟨bg,og,none⟩) c N by have:=((uh HRG).hold gnP hv).1; rw [hq] at this; exact this) hlt2)
     have HMEM:Hid ((N.getD i noGnA) ∈ N):=hide (getD_mem9 hlt2)
     have HDN:Hid ((N.map GnA.d).getD i noGnD = (N.getD i noGnA).d):=hide (getD_map9 GnA.d N noGnA _ hlt2)
     have HR:=hide (uh HIN _ (getD_mem9 (z:=noGnA) hlt2))
     have HI2:=hide hlt2
     have hsl:i < st.length:=by rw [uh HSTL]; exact hlt2
     have k0:=(uh HST).at hsl
     have kf:wr.frozen? ⟨sb,i,none⟩ = false:=Mrow.frozen (uh HST) i
     have kl:=(uh HST).lt
     have HPT:=hide ((uh HST).put hsl true)
     obtain ⟨bv,hbv⟩:∃ bv,st.getD i false = bv:=⟨_,rfl⟩
     have HBV:=hide hbv
     rw [hbv] at k0
     generalize N.getD i noGnA = x at A1 HGI HDN HR HGW HMEM HA8
     have c37:=(uh A1) 37 _ (gn_37 x)
     have c38:=(uh A1) 38 _ (gn_38 x)
     have HAD:=careDef9_any x.qi x.ci x.ins b dl' wr (uh HGI).2.2.1.1 (uh HDL) (by rw [uh HDLL]; omega) (by rw [uh HDLL]; exact (uh HR).1)
     rw [uh HDLL] at HAD
     have HAD2:=hide HAD
     subst hq
     clear HAD hsl hbv hbg
     cases bv with
     | true =>
       have HJ2:Hid (∀ j,j < i + 1 → st.getD j false = true ∨ readyG dl' ((N.map GnA.d).getD j noGnD).ins = false):=hide (fun j hj => by
        by_cases e:j < i
        ·exact uh HJ j e
        ·have:j = i:=by omega
         subst this; exact .inl (uh HBV))
       go_wp2_with fail
       go_roundw
       case rel => exact ⟨i + 1,rfl,by go_num,by omega,trivial,HJ2⟩
       case measure => simp [intOf]; omega
     | false =>
       obtain ⟨r,hr⟩:∃ r,readyG dl' x.ins = r:=⟨_,rfl⟩
       have HRR:=hide hr
       rw [hr] at HAD2
       clear hr
       cases r with
       | false =>
         have HJ2:Hid (∀ j,j < i + 1 → st.getD j false = true ∨ readyG dl' ((N.map GnA.d).getD j noGnD).ins = false):=hide (fun j hj => by
          by_cases e:j < i
          ·exact uh HJ j e
          ·have:j = i:=by omega
           subst this; rw [uh HDN]; exact .inr (uh HRR))
         go_wp2_with fail
         refine (uh HAD2).mono ?_
         rintro e w9 ⟨rfl,hv⟩
         replace hv:=hv.symm
         subst hv
         go_wp2_with fail
         go_roundw
         case rel => exact ⟨i + 1,rfl,by go_num,by omega,trivial,HJ2⟩
         case measure => simp [intOf]; omega
       | true =>
         go_wp2_with fail
         refine (uh HAD2).mono ?_
         rintro e w9 ⟨rfl,hv⟩
         replace hv:=hv.symm
         subst hv
         go_wp2_with fail
         obtain ⟨w4,hw4⟩:∃ w4,wr.setCell ⟨sb,i,none⟩ (.bool true) = w4:=⟨_,rfl⟩
         have S4:Hid (Stay sb wr w4):=hide (by rw [← hw4]; exact Stay.set8 _)
         have GR4:Hid (w.grownBy w4 (some b)):=hide (by rw [← hw4]; exact (gr_of_stay (uh HSY)).andThen gr_set (fun j hj => by simp only [Option.some.injEq] at hj; subst hj; exact .inl (Nat.le_of_eq (uh HSB))))
         have ST4:Hid (Bm w4 sb (st.set i true)):=hide (by rw [← hw4]; exact uh HPT)
         rw [hw4]
         clear hw4 k0 kf kl c37 c38
         have hbs:=uh HBS
         have hsl3:=uh HSL
         have D4:Hid (Bm w4 b dl'):=hide ((uh HDL).stay (uh S4) (by omega))
         have HH4:Hid (Hold OK w w4):=hide (gr_hold (uh GR4) (fun k hk e => by simp only [Option.some.injEq] at e; subst e; exact uh HBO hk))
         have RO4:=hide ((uh HRO).stay (uh S4) hsl3)
         have HDF:=cdefine9_any x.qo x.co x.outs b dl' w4 (gnP.hold (uh HGW) (uh HH4)).2.2.2.1.1 (uh D4) (fun b' o e hp hbb => by
          have:=(gnP.hold (uh HGW) (uh HH4)).2.2.2.1.2 b' o e hp
          rw [hbb] at this; exact uh HBO this) (by rw [uh HDLL]; omega) (by rw [uh HDLL]; exact (uh HR).2)
         rw [uh HDLL] at HDF
         refine HDF.mono ?_
         clear HDF
         rintro e w5 ⟨rfl,hB5,hS5⟩
         have DL5:=hide hB5
         have GR5:Hid (w.grownBy w5 (some b)):=hide ((uh GR4).trans (gr_of_stay hS5))
         have ST5:=hide ((uh ST4).stay hS5 (by omega))
         have RO5:=hide ((uh RO4).stay hS5 (by omega))
         have A5:=hide (uh HA8 w5 (gr_hold (uh GR5) (fun k hk e => by simp only [Option.some.injEq] at e; subst e; exact uh HBO hk)))
         have SZ5:Hid (w3.heap.size ≤ w5.heap.size):=hide (Nat.le_trans (uh HSZ) (Nat.le_trans (uh S4).1.size hS5.1.size))
         have HHS:Hid (w.heap.size ≤ w3.heap.size):=hide (by have:=uh HSB; omega)
         clear hB5 hS5 A1
         have hof:Hid (∀ k,k < w3.heap.size → (Value.slice pr LA.length cr).ownBlock ≠ some k):=hide (fun k hk e => absurd ((uh RO5).lt9 k e).1 (by omega))
         go_wp2_with (first
          | (refine wpList_isLoad 51 rfl ?_; (refine wpList_loadG aggGn rfl _ rfl rfl (gnWd.2.1 x) (uh A5) ?_))
          | ((refine wpList_slice1 rfl 29 51 _ rfl (gnCells x).toArray rfl i1 gnZ 40 Tryz.underlying29 hi1 y1 z1 (gnSize x) (by omega) (by omega) ?_))
          | (at_builtin; (refine wpList_append_gn rfl _ _ rfl w3.heap.size _ LA rfl ((uh RO5).below (al1p _ _)) ⟨w5.heap.size,0,none⟩ 1 x rfl (fun j u hj => by rw [Go.WideShapes.add_plain,Nat.zero_add,Box.cell (Box.new _ _ _)]; simpa using hj) (by omega) (Nat.le_trans (uh SZ5) (al1p _ _).size) ?_; intro v8 w8 r8 g8; obtain ⟨p8,c8,hv8⟩:=r8.slice; subst hv8; have RO8:=hide r8; have ST8:=hide (((uh ST5).below (al1p _ _)).gr g8 (uh hof _ hsl3)); have DL8:=hide (((uh DL5).below (al1p _ _)).gr g8 (uh hof _ (Nat.lt_trans hbs hsl3))); have SY8:Hid (Stay b w w8):=hide (Stay.grown9 (((uh GR5).trans (gr_below (al1p _ _) _)).andThen g8 (fun j hj => .inl (Nat.le_trans (uh HHS) ((uh RO5).lt9 j hj).1))) (by have:=uh HSB; omega)); have SZ8:=hide (Nat.le_trans (uh SZ5) (Nat.le_trans (al1p w5 _).size g8.size)); clear r8 g8)))
         have hlt9:=uh HLT
         have HPK:Hid (pickG dl' (remG (N.map GnA.d) st) = some (x.d,remG (N.map GnA.d) (st.set i true))):=hide (by
          have:=pick_at (N.map GnA.d) st dl' i (by rw [List.length_map]; exact uh HSTL) (by rw [List.length_map]; exact uh HI2) (uh HBV) (uh HJ) (by rw [uh HDN]; exact uh HRR)
          rw [uh HDN] at this; exact this)
         have K8:Hid (K = kahnG (N.length - (LA ++ [x]).length) (defG dl' x.outs) ((LA ++ [x]).map GnA.d) (remG (N.map GnA.d) (st.set i true))):=hide (by
          have e1:N.length - LA.length = (N.length - (LA ++ [x]).length) + 1:=by rw [List.length_append,List.length_singleton]; omega
          rw [uh HKA,e1,kahn_some (uh HPK),List.map_append]
          rfl)
         have RL8:Hid ((remG (N.map GnA.d) (st.set i true)).length = N.length - (LA ++ [x]).length):=hide (by
          have:=pick_len _ _ (uh HPK)
          rw [uh HRL] at this
          rw [List.length_append,List.length_singleton]; omega)
         have LI8:Hid (∀ y ∈ LA ++ [x],y ∈ N):=hide (fun y hy => by
          rcases List.mem_append.1 hy with g | g
          ·exact uh HLI y g
          ·simp only [List.mem_singleton] at g; rw [g]; exact uh HMEM)
         go_roundw
         case rel => exact ⟨LA ++ [x],st.set i true,defG dl' x.outs,by rw [List.length_append,List.length_singleton]; omega,(by have e:=RO8; rw [List.length_append,List.length_singleton] at e; exact e),LI8,ST8,hide (by rw [List.length_set]; exact uh HSTL),DL8,hide (by rw [defG_len]; exact uh HDLL),K8,RL8,SY8,SZ8⟩
         case measure => simp [sliceLen]; omega
    ·have hi3:¬ (i:Int) < (N.length:Int):=by omega
     have hie:i = N.length:=by omega
     subst hie
     have HPN:Hid (pickG dl' (remG (N.map GnA.d) st) = none):=hide (pick_no _ _ _ (by rw [List.length_map]; exact uh HSTL) (fun j hj => uh HJ j (by rw [List.length_map] at hj; exact hj)))
     obtain ⟨j,hj,hjl,r,hjr⟩:=rem_head (N.map GnA.d) st (by rw [List.length_map]; exact uh HSTL) (by rw [uh HRL]; omega)
     rw [List.length_map] at hjl
     rw [getD_map9 GnA.d N noGnA _ hjl] at hjr
     obtain ⟨bg,og,hq,hbg,_⟩:=(uh HRG).1.lies (show 0 < N.length by omega)
     have c39:=(Rc.at9 (show Rc 40 gnCells noGnA wr (some ⟨bg,og,none⟩) c N by have:=(uh RGU).1; rw [hq] at this; exact this) hjl) 39 _ (gn_39 (N.getD j noGnA))
     have HRE:Hid (R = (12,(N.getD j noGnA).src)):=hide (by
      have e1:N.length - LA.length = (N.length - LA.length - 1) + 1:=by omega
      rw [← uh HRV,uh HKA,e1,kahn_none (uh HPN)]
      unfold ordV
      rw [hjr]
      rfl)
     have HCI2:Hid (∀ n,Calls Tryz.prog 58 #[.slice (some ⟨sb,0,none⟩) N.length N.length,.bool false] (wr.drewN n) fun e w' => e = .returned (.int .i64 j) ∧ w' = wr.drewN n):=hide (fun n => by
      have HCI:=cidxB9_any sb st (wr.drewN n) (uh HST) (by rw [uh HSTL]; omega)
      rw [hj,uh HSTL] at HCI
      exact HCI)
     have HJL:=hide hjl
     have hjli:(j:Int) < (N.length:Int):=by omega
     clear hj hjr hbg
     generalize N.getD j noGnA = x at c39 HRE
     subst hq
     go_wp2_with fail
     go_quiet ((go_at_call 58; exact Calls.quiet_of_same (uh HCI2 _)))
     go_wp2_with fail
     rw [Exit.noGoto_ret]
     have hsy:=uh HSY
     have hre:=uh HRE
     exact bodyPost_ret (results_tmp3 rfl _ _ _) rfl ⟨_,_,_,(by rw [hre]; rfl),(fun e => absurd e (by rw [hre]; exact (by decide:¬ ((12:Int) = 0)))),hsy.drewN9 _⟩
  ·have hi:¬ (LA.length:Int) < (N.length:Int):=by omega
   have hle:N.length - LA.length = 0:=by omega
   have HRE:Hid (R = (0,0) ∧ K.1 = LA.map GnA.d):=hide (by
    have e2:remG (N.map GnA.d) st = []:=List.eq_nil_of_length_eq_zero (by rw [uh HRL]; exact hle)
    have e3:K = (LA.map GnA.d,[]):=by rw [uh HKA,hle,e2]; rfl
    exact ⟨by rw [← uh HRV,e3]; rfl,by rw [e3]⟩)
   go_wp2_with fail
   have hsy:=uh HSY
   have hro:=(uh HRO).mono (Nat.le_of_lt (by have:=uh HSB; have:=uh HSL; omega):w.heap.size ≤ w3.heap.size)
   have hli:=uh HLI
   have hre:=(uh HRE).1
   exact bodyPost_ret (results_tmp3 rfl _ _ _) rfl ⟨_,_,_,(by rw [hre]; rfl),(fun _ => ⟨LA,hro,(uh HRE).2.symm,hli⟩),hsy⟩
end Go.Proofs.YtbmmcbagdomonaaGreat
