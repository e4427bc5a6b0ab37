import Derived.Laws.Tables
import Derived.Great.BuildSlice
import Derived.Maps.Range
import Derived.Test.YtbmmcbagdomonaaGreatV22
import Derived.Test.YtbmmcbagdomonaaGreatV36
import Derived.Test.YtbmmcbagdomonaaGreatV38
set_option maxRecDepth 100000
set_option maxHeartbeats 40000000
namespace Go.Proofs.YtbmmcbagdomonaaGreat
open Go.RowKit
set_option linter.unusedVariables false
set_option linter.unusedSimpArgs false
open Go.Maps
theorem fold_writeA:∀ (us:List Value) (A:Array Value) (n k:Nat),(us.zipIdx n).foldl (fun (cs:Array Value) (x:Value × Nat) => cs.setIfInBounds (k + x.2) x.1) A = writeA A (k + n) us
 | [],A,n,k => rfl
 | u :: us,A,n,k => by
   rw [List.zipIdx_cons,List.foldl_cons,fold_writeA us _ (n + 1) k]
   rfl
theorem fill_one9 (k:Nat) (A cs:Array Value) (hA:A.size = k) (hs:cs.size = k):Instr.fill (fun i => some (i * k,k)) A [(0,.agg cs)] = some cs:=by
 unfold Instr.fill
 simp only [Nat.zero_mul,Value.cells,hs,ne_eq,not_true_eq_false,decide_false,Bool.false_or,hA,Nat.zero_add,gt_iff_lt,Nat.lt_irrefl]
 have e:(cs.zipIdx.foldl (fun (cs:Array Value) (x:Value × Nat) => cs.setIfInBounds (0 + x.2) x.1) A) = cs:=by
  rw [← Array.foldl_toList,Array.toList_zipIdx,fold_writeA]
  apply Array.toList_inj.1
  rw [writeA_list _ _ _ (by simp [hA,hs])]
  simp [hA,hs]
 simp only [Nat.zero_add,Array.size_zipIdx] at e
 simp [Instr.fill]
 exact e
theorem wpList_slice1 {P:Program} {ops:Array Oper} {rest:List Oper} {o:Oper} {a:Act} {w:World} {Q:Exit → Act → World → Prop} (hg:o.guard = none) (t e:TypeId) (x:Operand) (ho:o.op = .buildSlice t 1 #[(0,x)])
  (cs:Array Value) (hx:a.eval x = .agg cs) (ie:TypeInfo) (z:Value) (k:Nat)
  (hu:P.underlying t = some (.slice e)) (hie:P.info? e = some ie) (hz:ie.zero = some z) (hk:ie.size = k) (hs:cs.size = k) (hpos:0 < k) (hsm:k ≤ 1000)
  (h:wpList P ops Q rest (a.put o.dst (.slice (some ⟨w.heap.size,0,none⟩) 1 1)) (w.alloc (.cells cs e))):wpList P ops Q (o :: rest) a w:=by
 refine wpList_buildSlice hg t e 1 _ ho cs ie z hu hie hz (by rw [hk]; omega) (by rw [hk]; omega) ?_ h
 have ee:(Array.map (fun (i,x) => (i,a.eval x)) #[(0,x)]).toList = [(0,.agg cs)]:=by simp [hx]
 rw [ee,hk]
 exact fill_one9 k _ cs (by simp) hs
theorem arr36 (cs:Array Value) (h:cs.size = 36) {C:Array Value → Prop} (H:∀ a0 a1 a2 a3 a4 a5 a6 a7 a8 a9 a10 a11 a12 a13 a14 a15 a16 a17 a18 a19 a20 a21 a22 a23 a24 a25 a26 a27 a28 a29 a30 a31 a32 a33 a34 a35,C #[a0,a1,a2,a3,a4,a5,a6,a7,a8,a9,a10,a11,a12,a13,a14,a15,a16,a17,a18,a19,a20,a21,a22,a23,a24,a25,a26,a27,a28,a29,a30,a31,a32,a33,a34,a35]):C cs:=by
 obtain ⟨l⟩:=cs
 simp only [List.size_toArray] at h
 match l,h with
 | a0 :: a1 :: a2 :: a3 :: a4 :: a5 :: a6 :: a7 :: a8 :: a9 :: a10 :: a11 :: a12 :: a13 :: a14 :: a15 :: a16 :: a17 :: a18 :: a19 :: a20 :: a21 :: a22 :: a23 :: a24 :: a25 :: a26 :: a27 :: a28 :: a29 :: a30 :: a31 :: a32 :: a33 :: a34 :: a35 :: [],_ => exact H a0 a1 a2 a3 a4 a5 a6 a7 a8 a9 a10 a11 a12 a13 a14 a15 a16 a17 a18 a19 a20 a21 a22 a23 a24 a25 a26 a27 a28 a29 a30 a31 a32 a33 a34 a35
def gnRaw (op:Int) (cs:Array Value) (src:Int):Array Value:=(.int .i64 op :: (cs.toList ++ [.slice none 0 0,.slice none 0 0,.int .i64 src])).toArray
theorem gn_built (op:Int) (cs:Array Value) (src:Int) (h:cs.size = 36):Tryz.prog.built 51 [(0,.int .i64 op),(1,.agg cs),(4,.int .i64 src)] = some (gnRaw op cs src):=by
 refine arr36 cs h (C:=fun cs => Tryz.prog.built 51 [(0,.int .i64 op),(1,.agg cs),(4,.int .i64 src)] = some (gnRaw op cs src)) ?_
 intro a0 a1 a2 a3 a4 a5 a6 a7 a8 a9 a10 a11 a12 a13 a14 a15 a16 a17 a18 a19 a20 a21 a22 a23 a24 a25 a26 a27 a28 a29 a30 a31 a32 a33 a34 a35
 kernel_rfl
theorem wpList_gnbuild {ops:Array Oper} {rest:List Oper} {o:Oper} {a:Act} {w:World} {Q:Exit → Act → World → Prop} (hg:o.guard = none) (x y z:Operand) (ho:o.op = .build 51 #[(0,x),(1,y),(4,z)])
  (op:Int) (cs:Array Value) (src:Int) (hx:a.eval x = .int .i64 op) (hy:a.eval y = .agg cs) (hz:a.eval z = .int .i64 src) (hs:cs.size = 36)
  (h:wpList Tryz.prog ops Q rest (a.put o.dst (.agg (gnRaw op cs src))) w):wpList Tryz.prog ops Q (o :: rest) a w:=by
 refine wpList_plain hg fun K hK => ?_
 have e:(Array.map (fun (i,x) => (i,a.eval x)) #[(0,x),(1,y),(4,z)]).toList = [(0,.int .i64 op),(1,.agg cs),(4,.int .i64 src)]:=by simp [hx,hy,hz]
 have hb:=run_build (P:=Tryz.prog) w 51 (Array.map (fun (i,x) => (i,a.eval x)) #[(0,x),(1,y),(4,z)]) _ (by rw [e]; exact gn_built op cs src hs)
 unfold Oper.wp execOp
 simp only [ho,Sem.run_bind,hb,Result.andThen_ok,Sem.run_pure]
 exact hK _ _ h
def gnZ:Value:=.agg ((.int .i64 0 :: (zeroC.toList ++ [.slice none 0 0,.slice none 0 0,.int .i64 0])).toArray)
theorem Tryz.info9Gn:(Tryz.prog.info? 51).map (fun i => (i.zero,i.size,i.bytes)) = some (some gnZ,40,432):=by kernel_rfl
def resdV (l:List NodeD):Int × Int :=
 match firstG (fun i => decide ((resV (l.getD i ([],[],[],[],[]))).2.2 ≠ 0)) l.length 0 with
 | some i => ((resV (l.getD i ([],[],[],[],[]))).2.2,i)
 | none => (0,0)
theorem resd_at (l:List NodeD) (n:Nat) (hn:n < l.length) (h1:∀ i,i < n → (resV (l.getD i ([],[],[],[],[]))).2.2 = 0) (h2:(resV (l.getD n ([],[],[],[],[]))).2.2 ≠ 0):resdV l = ((resV (l.getD n ([],[],[],[],[]))).2.2,(n:Int)):=by
 have e:firstG (fun i => decide ((resV (l.getD i ([],[],[],[],[]))).2.2 ≠ 0)) l.length 0 = some n:=by
  refine firstG_some _ _ 0 n (Nat.zero_le _) (by omega) (fun j _ hj => ?_) (decide_eq_true h2)
  exact decide_eq_false (fun h => h (h1 j hj))
 unfold resdV
 rw [e]
theorem resd_ok (l:List NodeD) (h1:∀ i,i < l.length → (resV (l.getD i ([],[],[],[],[]))).2.2 = 0):resdV l = (0,0):=by
 unfold resdV
 rw [firstG_none _ _ _ (fun j _ hj => decide_eq_false (fun h => h (h1 j (by omega))))]
def bareG (i:Nat) (n:NodeD):GnD:=⟨(resV n).1,(resV n).2.1,[],[],i⟩
def baresG:Nat → List NodeD → List GnD
 | _,[] => []
 | i,n :: r => bareG i n :: baresG (i + 1) r
theorem bares_snoc:∀ (i:Nat) (l:List NodeD) (n:NodeD),baresG i (l ++ [n]) = baresG i l ++ [bareG (i + l.length) n]
 | i,[],n => rfl
 | i,x :: r,n => by
   show bareG i x :: baresG (i + 1) (r ++ [n]) = bareG i x :: (baresG (i + 1) r ++ _)
   rw [bares_snoc (i + 1) r n,List.length_cons,show i + 1 + r.length = i + (r.length + 1) by omega]
theorem bares_take (l:List NodeD) (n:Nat) (h:n < l.length):baresG 0 (l.take (n + 1)) = baresG 0 (l.take n) ++ [bareG n (l.getD n ([],[],[],[],[]))]:=by
 have e:l.take (n + 1) = l.take n ++ [l.getD n ([],[],[],[],[])]:=by
  rw [List.take_add_one,List.getD_eq_getElem?_getD,List.getElem?_eq_getElem h]; rfl
 rw [e,bares_snoc,List.length_take,Nat.min_eq_left (Nat.le_of_lt h),Nat.zero_add]
theorem bares_len:∀ (i:Nat) (l:List NodeD),(baresG i l).length = l.length
 | _,[] => rfl
 | i,n :: r => by show (baresG _ r).length + 1 = _; rw [bares_len]; rfl
theorem tab_len9:tabT.length = 80:=by kernel_rfl
theorem numT_le (s:Str):0 ≤ numT s ∧ numT s ≤ 80:=by
 have h:=idxI_ge (fun r:RowD => decide (r.1 = s)) tabT
 unfold numT
 by_cases g:0 ≤ idxI (fun r:RowD => decide (r.1 = s)) tabT
 ·obtain ⟨n,e,h1,_⟩:=idxI_lt (fun r:RowD => decide (r.1 = s)) (rowT 0) tabT g
  rw [tab_len9] at h1
  omega
 ·omega
theorem resV_wf (d:NodeD):(Lit.int .i64 (resV d).1).wf = true:=by
 have h:=numT_le d.1
 have e:0 ≤ (resV d).1 ∧ (resV d).1 ≤ 80:=by
  unfold resV
  split
  ·exact ⟨by decide,by decide⟩
  ·split
   ·exact ⟨by decide,by decide⟩
   ·split
    ·exact ⟨by decide,by decide⟩
    ·split
     ·exact ⟨by decide,by decide⟩
     ·exact h
 exact WalkArith.wf_i64 (by omega)
theorem int64_wf9 (n:Nat) (h:n ≤ 1099511627776):(Lit.int .i64 (n:Int)).wf = true:=WalkArith.wf_i64 (by omega)
def Bare (x:GnA):Prop:=x.ins = [] ∧ x.qi = none ∧ x.ci = 0 ∧ x.outs = [] ∧ x.qo = none ∧ x.co = 0
theorem cresolved9_any (q:Option Addr) (c:Nat) (l:List NoA) (B:Nat) (w:World) (h:Rc 5 noCells noNoA w q c l) (hi:∀ x ∈ l,NoIn B w x) (ht:∀ x ∈ l,∀ a ∈ x.at',okT8 a.T) (hs:l.length ≤ 1024) :
  Calls Tryz.prog 21 #[.slice q l.length c] w fun e w' => ∃ v,e = .returned (.tuple #[v,.int .i64 (resdV (l.map NoA.d)).1,.int .i64 (resdV (l.map NoA.d)).2]) ∧ ((resdV (l.map NoA.d)).1 = 0 → ∃ L,OwnE 51 40 gnCells GnIn w w' v L ∧ L.map GnA.d = baresG 0 (l.map NoA.d) ∧ ∀ x ∈ L,Bare x) ∧ Below w.heap.size w w':=by
 obtain ⟨i1,hi1,y1,z1,b1⟩:=info_parts Tryz.info9Gn
 obtain ⟨R,hR⟩:∃ R,resdV (l.map NoA.d) = R:=⟨_,rfl⟩
 have HR:=hide hR
 rw [hR]
 clear hR
 have HRA:=hide (resd_at (l.map NoA.d))
 have HRO:=hide (resd_ok (l.map NoA.d))
 have HBT:=hide (bares_take (l.map NoA.d))
 have hmg:∀ n,n < l.length → (l.map NoA.d).getD n ([],[],[],[],[]) = (l.getD n noNoA).d:=fun n hn => getD_map9 NoA.d l noNoA _ hn
 have HMG:=hide hmg
 have HML:Hid ((l.map NoA.d).length = l.length):=hide (List.length_map _)
 have HI:=hide hi
 have HT:=hide ht
 have HRC:=hide h
 clear hmg hi ht h
 generalize l.map NoA.d = ld at HR HRA HRO HBT HMG HML
 go_enter Tryz.func21,Tryz.ntmps21
 go_wp2_with fail
 go_loopw [5,13] (fun v iv wr => ∃ (n:Nat) (L:List GnA),iv = .int .i64 n ∧ n ≤ l.length ∧ Hid (OwnE 51 40 gnCells GnIn w wr v L) ∧ Hid (L.map GnA.d = baresG 0 (ld.take n)) ∧ Hid (L.length = n) ∧ Hid (∀ x ∈ L,Bare x) ∧ Hid (∀ i,i < n → (resV (ld.getD i ([],[],[],[],[]))).2.2 = 0)) (fun _ iv _ => l.length - (intOf iv).toNat)
 case atStart => exact ⟨0,[],rfl,by omega,hide (OwnE.nil (Below.refl _ _)),hide rfl,hide rfl,hide (fun x hx => by cases hx),hide (fun i hi => absurd hi (by omega))⟩
 case round =>
  obtain ⟨n,L,rfl,hn,HO,HD,HL,HBA,HZ⟩:=hrel
  have BR:Hid (Below w.heap.size w wr):=hide (uh HO).1.2
  by_cases hlt:n < l.length
  ·have hi:(n:Int) < (l.length:Int):=by omega
   obtain ⟨bq,oq,hq,hbq,_⟩:=(uh HRC).lies (show 0 < l.length by omega)
   subst hq
   have A1:Hid (At8 wr bq (oq + n * 5) (noCells (l.getD n noNoA))):=hide (Rc.at9 ((uh HRC).below (uh BR)) hlt)
   have HX:=hide (uh HI _ (getD_mem9 (z:=noNoA) hlt))
   have HTT:=hide (uh HT _ (getD_mem9 (z:=noNoA) hlt))
   have HG:=hide (uh HMG n hlt)
   generalize l.getD n noNoA = x at A1 HX HTT HG
   have HC:=hide (fun v (hv:Below w.heap.size w v) => cresolve8_any x B v ((uh HX).kept (TS:=nodeTS) (fun _ h => h) ⟨hv.size,fun b _ hb => hv.block b hb,fun b cur t _ hh => (hv.block b (lt_of_block hh)).trans hh⟩) (uh HTT))
   obtain ⟨rop,hrop⟩:∃ r,(resV x.d).1 = r:=⟨_,rfl⟩
   obtain ⟨rD,hrD⟩:∃ r,(resV x.d).2.1 = r:=⟨_,rfl⟩
   obtain ⟨re,hre⟩:∃ r,(resV x.d).2.2 = r:=⟨_,rfl⟩
   have HRE:=hide (show resV x.d = (rop,rD,re) by rw [← hrop,← hrD,← hre])
   rw [hrop,hrD,hre] at HC
   have HOP:Hid ((Lit.int .i64 rop).wf = true):=hide (by rw [← hrop]; exact resV_wf x.d)
   clear hrop hrD hre
   have HLN:=hide (show L.length = n from uh HL)
   go_wp2_with (first
    | (refine wpList_isLoad 55 rfl ?_; refine wpList_loadG aggNode rfl _ rfl rfl (noWd.2.1 x) (uh A1) ?_)
    | (refine wpList_isLoad 55 rfl ?_; refine wpList_loadG aggNode rfl _ rfl rfl (noWd.2.1 x) (uh A5) ?_)
    | (refine wpList_isStore 55 rfl ?_; (refine wpList_storeG aggNode rfl _ _ rfl rfl rfl (Box.new wr nodeZ 55) (noSize x) rfl (noWd.ones x) ?_; intro w5 b5 s5 z5; have G5:=hide b5; have B5:Hid (Below wr.heap.size wr w5):=hide (bl_tr7 (al1p _ _) s5.1); have A5:Hid (At8 w5 wr.heap.size 0 (noCells x)):=hide (by simpa using At8.box b5); clear b5 s5 z5)))
   refine (uh HC w5 (bl_tr (uh BR) (uh B5))).mono ?_
   rintro e w6 ⟨cs,rfl,hv,hb6⟩
   have V6:=hide hv
   have B6:=hide hb6
   have BW6:Hid (Below w.heap.size w w6):=hide (bl_tr (bl_tr (uh BR) (uh B5)) hb6)
   clear hv hb6 HC
   by_cases h0:re = 0
   ·subst h0
    have HZ2:Hid (∀ i,i < n + 1 → (resV (ld.getD i ([],[],[],[],[]))).2.2 = 0):=hide (fun i hi => by
     by_cases e:i < n
     ·exact uh HZ i e
     ·have:i = n:=by omega
      subst this
      rw [uh HG,uh HRE])
    have HBT2:Hid (baresG 0 (ld.take (n + 1)) = baresG 0 (ld.take n) ++ [⟨rop,rD,[],[],(n:Int)⟩]):=hide (by
     rw [uh HBT n (by rw [uh HML]; exact hlt),uh HG]
     unfold bareG
     rw [uh HRE])
    have O6:=hide ((uh HO).below gnP (bl_tr (uh B5) (uh B6)))
    have h36:=(uh V6).1
    go_wp2_with (first
     | (refine wpList_isStore 49 rfl ?_; (refine wpList_store8 rfl _ _ rfl rfl rfl (Box.new _ _ _) (uh V6).1 rfl (SeIn.ones (uh V6)) ?_; intro w7 b7 s7 z7; have G7:=hide b7; have B7:Hid (Below w6.heap.size w6 w7):=hide (bl_tr7 (al1p _ _) s7.1); have O7:=hide ((uh O6).below gnP (uh B7)); clear b7 s7 z7))
     | (refine wpList_isLoad 49 rfl ?_; (refine wpList_load8 rfl _ rfl rfl (uh G7) h36 ?_))
     | ((refine wpList_gnbuild rfl _ _ _ rfl rop cs (n:Int) rfl rfl rfl h36 ?_))
     | ((refine wpList_slice1 rfl 29 51 _ rfl (gnRaw rop cs (n:Int)) rfl i1 gnZ 40 Tryz.underlying29 hi1 y1 z1 (by simp [gnRaw,h36]) (by omega) (by omega) ?_))
     | (at_builtin; (refine wpList_append_el gnWd gnP rfl _ _ 29 rfl w 51 i1 gnZ 432 Tryz.underlying29 hi1 y1 z1 b1 rfl _ L rfl ((uh O7).below gnP (al1p _ _)) ⟨w7.heap.size,0,none⟩ 1 ⟨rop,cs,rD,[],none,0,[],none,0,n,h36,SeIn.ones (uh V6)⟩ rfl (fun j u hj => ?_) ?_ (by rw [uh HL]; unfold maxLen; omega) (by rw [uh HL]; omega) ?_)))
    ·rw [Go.WideShapes.add_plain,Nat.zero_add,Box.cell (Box.new _ _ _)]
     simpa [gnCells,gnRaw] using hj
    ·refine ⟨uh HOP,?_,Li.nil _ _ _,Li.nil _ _ _,int64_wf9 n (by omega)⟩
     refine SeL.hold (SeL.mono (uh V6).seL (fun b hb _ => ?_)) (Hold.below (bl_tr (uh B7) (al1p _ _)))
     have s5:=(uh B5).size
     have sr:=(uh BR).size
     refine ⟨by omega,fun e => ?_⟩
     have:=((uh HO).1.lt9 b e).1
     omega
    ·intro v8 w8 o8 hg8 hl8
     have O8:=hide o8
     clear o8 hg8 hl8
     go_wp2_with fail
     go_roundw
     case rel => exact ⟨n + 1,_,by go_num,by omega,O8,hide (by rw [uh HBT2,List.map_append,uh HD]; rfl),hide (by rw [List.length_append,uh HL]; rfl),hide (fun y hy => by
      rcases List.mem_append.1 hy with g | g
      ·exact uh HBA y g
      ·simp only [List.mem_singleton] at g; subst g; exact ⟨rfl,rfl,rfl,rfl,rfl,rfl⟩),HZ2⟩
     case measure => simp [intOf]; omega
   ·have e0:R = (re,(n:Int)):=by
     rw [← uh HR,uh HRA n (by rw [uh HML]; exact hlt) (uh HZ) (by rw [uh HG,uh HRE]; exact h0),uh HG,uh HRE]
    subst e0
    have h1:(re != 0) = true:=by simp [h0]
    go_wp2_with (refine wpList_isStore 49 rfl ?_; (refine wpList_store8 rfl _ _ rfl rfl rfl (Box.new _ _ _) (uh V6).1 rfl (SeIn.ones (uh V6)) ?_; intro w7 b7 s7 z7; have B7:Hid (Below w6.heap.size w6 w7):=hide (bl_tr7 (al1p _ _) s7.1); clear b7 s7 z7))
    refine bodyPost_ret (results_tmp3 rfl _ _ _) rfl ⟨⟨_,rfl⟩,bl_tr (uh BW6) (uh B7)⟩
  ·have hi:¬ (n:Int) < (l.length:Int):=by omega
   have e0:n = l.length:=by omega
   subst e0
   have e1:R = (0,0):=by rw [← uh HR]; exact uh HRO (fun i hi => uh HZ i (by rw [uh HML] at hi; exact hi))
   subst e1
   go_wp2_with fail
   exact bodyPost_ret (results_tmp3 rfl _ _ _) rfl ⟨_,rfl,⟨L,uh HO,by rw [uh HD,List.take_of_length_le (by rw [uh HML]; exact Nat.le_refl _)],uh HBA⟩,uh BR⟩
def RowN {β:Type} (t:TypeId) (k:Nat) (cells:β → List Value) (w:World) (g cap:Nat) (l:List β):Prop :=
 ∃ cur:Array Value,w.heap[g]? = some (Obj.cells cur t (0,0)) ∧ l.length ≤ cap ∧ cap ≤ maxLen ∧ cur.size = cap * k ∧ cur.toList.take (l.length * k) = l.flatMap cells
section
variable {β:Type} {t:TypeId} {k:Nat} {cells:β → List Value} {z:β} {w w' w0:World} {g cap:Nat} {l:List β}
theorem RowN.lt (h:RowN t k cells w g cap l):g < w.heap.size:=by
 obtain ⟨cur,hh,_⟩:=h; exact lt_of_block hh
theorem RowN.frozen (h:RowN t k cells w g cap l) (j:Nat):w.frozen? ⟨g,j,none⟩ = false:=by
 obtain ⟨cur,hh,_⟩:=h; simp [World.frozen?,hh]
theorem RowN.block (h:RowN t k cells w g cap l) (hb:w'.heap[g]? = w.heap[g]?):RowN t k cells w' g cap l:=by
 obtain ⟨cur,hh,hr⟩:=h; exact ⟨cur,hb.trans hh,hr⟩
theorem RowN.below (h:RowN t k cells w g cap l) (hb:Below w.heap.size w w'):RowN t k cells w' g cap l:=h.block (hb.block g h.lt)
theorem RowN.at (hk:Wd k cells) (h:RowN t k cells w g cap l) {i j:Nat} {u:Value} (hi:i < l.length) (hu:(cells (l.getD i z))[j]? = some u):w.cell? ⟨g,i * k + j,none⟩ = some u:=by
 obtain ⟨cur,hh,h1,h2,h3,h4⟩:=h
 have hj:j < k:=by
  have:=(List.getElem?_eq_some_iff.1 hu).1
  rw [hk.2.1] at this; exact this
 have hlt:i * k + j < l.length * k:=by
  have:(i + 1) * k ≤ l.length * k:=Nat.mul_le_mul_right k hi
  rw [Nat.add_mul] at this
  omega
 have e:cur.toList[i * k + j]? = some u:=by
  have e1:(cur.toList.take (l.length * k))[i * k + j]? = cur.toList[i * k + j]?:=List.getElem?_take_of_lt hlt
  rw [← e1,h4,rc_get (z:=z) hk l i j hi hj,hu]
 simp [World.cell?,hh]
 simpa using e
theorem flat_put (hk:Wd k cells) (z:β) {i j:Nat} {x:β} {u:Value} (hi:i < l.length) (hj:j < k) (hx:cells x = (cells (l.getD i z)).set j u):(l.flatMap cells).set (i * k + j) u = (l.set i x).flatMap cells:=by
 have hlen:(l.flatMap cells).length = l.length * k:=rc_len hk l
 have hlt:i * k + j < l.length * k:=by
  have:(i + 1) * k ≤ l.length * k:=Nat.mul_le_mul_right k hi
  rw [Nat.add_mul] at this
  omega
 refine List.ext_getElem? (fun m => ?_)
 by_cases hm:m < l.length * k
 ·have hk0:=hk.1
  have e:m = (m / k) * k + m % k:=by rw [Nat.mul_comm]; exact (Nat.div_add_mod m k).symm
  have ha:m / k < l.length:=(Nat.div_lt_iff_lt_mul hk0).2 hm
  have hb:m % k < k:=Nat.mod_lt _ hk0
  generalize m / k = a at e ha
  generalize m % k = b at e hb
  subst e
  rw [rc_get (z:=z) hk (l.set i x) a b (by rw [List.length_set]; exact ha) hb,List.getElem?_set]
  by_cases hai:a = i
  ·subst hai
   have e1:(l.set a x).getD a z = x:=by rw [List.getD_eq_getElem?_getD,List.getElem?_set]; simp [ha]
   rw [e1,hx,List.getElem?_set]
   by_cases hbj:b = j
   ·subst hbj
    rw [if_pos rfl,if_pos rfl,hlen,hk.2.1,if_pos hlt,if_pos hb]
   ·rw [if_neg (by omega),if_neg (fun e => hbj e.symm),rc_get (z:=z) hk l a b ha hb]
  ·have e1:(l.set i x).getD a z = l.getD a z:=by rw [List.getD_eq_getElem?_getD,List.getElem?_set,if_neg (fun e => hai e.symm),← List.getD_eq_getElem?_getD]
   rw [e1,rc_get (z:=z) hk l a b ha hb,if_neg]
   intro e
   rcases Nat.lt_or_gt_of_ne hai with g | g
   ·have:(a + 1) * k ≤ i * k:=Nat.mul_le_mul_right k g
    rw [Nat.add_mul] at this; omega
   ·have:(i + 1) * k ≤ a * k:=Nat.mul_le_mul_right k g
    rw [Nat.add_mul] at this; omega
 ·rw [List.getElem?_eq_none (by rw [List.length_set,hlen]; omega),List.getElem?_eq_none (by rw [rc_len hk,List.length_set]; omega)]
theorem RowN.put (hk:Wd k cells) (z:β) (h:RowN t k cells w g cap l) {i j:Nat} {x:β} {u:Value} (hi:i < l.length) (hj:j < k) (hx:cells x = (cells (l.getD i z)).set j u):RowN t k cells (w.setCell ⟨g,i * k + j,none⟩ u) g cap (l.set i x):=by
 obtain ⟨cur,hh,h1,h2,h3,h4⟩:=h
 refine ⟨cur.setIfInBounds (i * k + j) u,?_,by rw [List.length_set]; exact h1,h2,by rw [Array.size_setIfInBounds]; exact h3,?_⟩
 ·exact Box.same (w:=w) (g:=g) (cs:=cur) (t:=t) hh (i * k + j) u
 ·have hlt:i * k + j < l.length * k:=by
   have:(i + 1) * k ≤ l.length * k:=Nat.mul_le_mul_right k hi
   rw [Nat.add_mul] at this
   omega
  rw [List.length_set,← flat_put hk z hi hj hx,← h4,Array.toList_setIfInBounds,List.take_set]
theorem RowN.own (h:RowN t k cells w g cap l) (hk:Wd k cells) (hg:w0.heap.size ≤ g) (hb:Below w0.heap.size w0 w):OwnR t k cells w0 w (.slice (some ⟨g,0,none⟩) l.length cap) l:=by
 obtain ⟨cur,hh,h1,h2,h3,h4⟩:=h
 exact ⟨⟨rc_len hk l,.inr ⟨g,cap,cur,rfl,hg,hh,h1,h2,h3,h4⟩⟩,hb⟩
theorem OwnR.rowN {v:Value} (h:OwnR t k cells w0 w v l):(v = .slice none 0 0 ∧ l = []) ∨ ∃ g cap,v = .slice (some ⟨g,0,none⟩) l.length cap ∧ w0.heap.size ≤ g ∧ RowN t k cells w g cap l:=by
 rcases h.1.2 with ⟨hv,hn⟩ | ⟨g,cap,cur,hv,hb,hh,h1,h2,h3,h4⟩
 ·exact .inl ⟨hv,List.eq_nil_of_length_eq_zero hn⟩
 ·exact .inr ⟨g,cap,hv,hb,cur,hh,h1,h2,h3,h4⟩
end
def RowI (w:World) (base:Nat) (v:Value) (xs:List Int):Prop:=w.ownsRow base 3 1 v xs.length (xs.map (Value.int .i64))
theorem RowI.nil (w:World) (base:Nat):RowI w base (.slice none 0 0) []:=⟨rfl,.inl ⟨rfl,rfl⟩⟩
theorem RowI.form {w:World} {base:Nat} {v:Value} {xs:List Int} (h:RowI w base v xs):∃ p cap,v = .slice p xs.length cap ∧ Ls (Value.int .i64) w p cap xs ∧ Fresh base w p xs.length:=by
 obtain ⟨l1,h1⟩:=h
 have h0:w.ownsRow base 3 1 v xs.length (xs.map (Value.int .i64)):=⟨l1,h1⟩
 rcases h1 with ⟨rfl,hn⟩ | ⟨g,cap,cur,rfl,hb,hh,hc,hm,hs,ht⟩
 ·exact ⟨none,0,by rw [hn],⟨by omega,by omega,fun hp => by omega,fun _ => rfl⟩,fun b o e => by cases e⟩
 ·refine ⟨some ⟨g,0,none⟩,cap,rfl,⟨hc,hm,fun hp => ⟨g,0,rfl,(h0.lt g rfl).2,fun i hi => ?_⟩,fun h => by cases h⟩,fun b o e hp => ?_⟩
  ·have e:cur.toList[i]? = some (Value.int .i64 (xs.getD i default)):=by
    have e1:(cur.toList.take (xs.length * 1))[i]? = cur.toList[i]?:=List.getElem?_take_of_lt (by omega)
    rw [← e1,ht,List.getElem?_map,List.getElem?_eq_getElem hi,List.getD_eq_getElem?_getD,List.getElem?_eq_getElem hi]; rfl
   simp [World.cell?,hh]
   simpa using e
  ·simp only [Option.some.injEq,Addr.mk.injEq] at e
   obtain ⟨rfl,rfl,_⟩:=e
   exact ⟨hb,fun i _ => h0.frozenAt (0 + i)⟩
theorem RowI.block {w w':World} {base:Nat} {v:Value} {xs:List Int} (h:RowI w base v xs) (hb:∀ g,v.ownBlock = some g → w'.heap[g]? = w.heap[g]?):RowI w' base v xs:=by
 obtain ⟨l1,h1⟩:=h
 refine ⟨l1,?_⟩
 rcases h1 with h1 | ⟨g,cap,cur,hv,hg,hh,hr⟩
 ·exact .inl h1
 ·exact .inr ⟨g,cap,cur,hv,hg,(hb g (by rw [hv]; rfl)).trans hh,hr⟩
theorem RowI.lt9 {w:World} {base:Nat} {v:Value} {xs:List Int} (h:RowI w base v xs):∀ g,v.ownBlock = some g → base ≤ g ∧ g < w.heap.size:=fun g hg => World.ownsRow.lt h g hg
theorem wpList_append_num {P:Program} {ops:Array Oper} {rest:List Oper} {o:Oper} {a:Act} {w:World} {Q:Exit → Act → World → Prop} (hgd:o.guard = none) (s x:Operand) (t:TypeId)
  (ho:o.op = .call { callee:=.builtin .append,args:=#[s,x],argTypes:=#[t,t] })
  (base:Nat) (i:TypeInfo) (ht:P.underlying t = some (.slice 3)) (hi:P.info? 3 = some i) (hz:i.zero = some (.int .i64 0)) (hsize:i.size = 1) (hby:i.bytes = 8)
  (v:Value) (xs:List Int) (hs:a.eval s = v) (hown:RowI w base v xs)
  (ad:Addr) (c:Nat) (y:Int) (hx:a.eval x = .slice (some ad) 1 c) (hc:w.cell? ad = some (.int .i64 y))
  (hl:xs.length ≤ 1000000000) (hbase:base ≤ w.heap.size)
  (h:∀ v' w',RowI w' base v' (xs ++ [y]) → w.grownBy w' v.ownBlock → (v'.ownBlock = v.ownBlock ∨ v'.ownBlock = some w.heap.size) → wpList P ops Q rest (a.put o.dst v') w'):wpList P ops Q (o :: rest) a w:=by
 refine wpList_append_own_at w hgd s x t ho base 3 i (.int .i64 0) 1 8 ht hi hz hsize hby rfl (by omega) v xs.length (xs.map (Value.int .i64)) hs hown ad 1 c [.int .i64 y] hx rfl (fun j u hj => ?_) (fun u hu => ?_) (by unfold maxLen; omega) (by omega) hbase ?_
 ·have e:j = 0:=by
   have:=(List.getElem?_eq_some_iff.1 hj).1
   simp at this; omega
  subst e
  simp only [List.getElem?_cons_zero,Option.some.injEq] at hj
  rw [← hj]; exact hc
 ·simp only [List.mem_singleton] at hu; subst hu; rfl
 ·intro v' w' h1 h2 _ h4
  refine h v' w' ?_ h2 h4
  unfold RowI
  rw [List.length_append,List.map_append]
  exact h1
def GnA.withIn (x:GnA) (ins:List Int) (q:Option Addr) (c:Nat):GnA:=⟨x.op,x.cs,x.D,ins,q,c,x.outs,x.qo,x.co,x.src,x.hc⟩
def GnA.withOut (x:GnA) (outs:List Int) (q:Option Addr) (c:Nat):GnA:=⟨x.op,x.cs,x.D,x.ins,x.qi,x.ci,outs,q,c,x.src,x.hc⟩
theorem gn_in (x:GnA) (ins:List Int) (q:Option Addr) (c:Nat):gnCells (x.withIn ins q c) = (gnCells x).set 37 (.slice q ins.length c):=by
 have h:=x.hc.1
 simp [gnCells,GnA.withIn,List.set_append,h]
theorem gn_out (x:GnA) (outs:List Int) (q:Option Addr) (c:Nat):gnCells (x.withOut outs q c) = (gnCells x).set 38 (.slice q outs.length c):=by
 have h:=x.hc.1
 simp [gnCells,GnA.withOut,List.set_append,h]
theorem gn_37 (x:GnA):(gnCells x)[37]? = some (.slice x.qi x.ins.length x.ci):=by
 have h:=x.hc.1
 simp [gnCells,List.getElem?_append,h]
theorem gn_38 (x:GnA):(gnCells x)[38]? = some (.slice x.qo x.outs.length x.co):=by
 have h:=x.hc.1
 simp [gnCells,List.getElem?_append,h]
theorem gn_39 (x:GnA):(gnCells x)[39]? = some (.int .i64 x.src):=by
 have h:=x.hc.1
 simp [gnCells,List.getElem?_append,h]
theorem gn_0 (x:GnA):(gnCells x)[0]? = some (.int .i64 x.op):=rfl
def linkG (L:List Str) (i:Nat) (n:NodeD):GnD:=⟨(resV n).1,(resV n).2.1,n.2.2.1.map (findG L),n.2.2.2.1.map (findG L),i⟩
def mixG (L:List Str) (n:Nat) (nodes:List NoA) (l:List GnA):Prop:=l.length = nodes.length ∧ ∀ i,i < nodes.length → (l.getD i noGnA).d = if i < n then linkG L i (nodes.getD i noNoA).d else bareG i (nodes.getD i noNoA).d
def linkV (L:List Str) (nodes:List NodeD) (out:List ValD):Int × Int :=
 match firstG (fun i => !insG L (nodes.getD i ([],[],[],[],[])).2.2.1) nodes.length 0 with
 | some i => (13,i)
 | none => if (out.all fun v => decide (0 ≤ findG L v.1)) = true then (0,0) else (13,-1)
theorem link_at (L:List Str) (nodes:List NodeD) (out:List ValD) (n:Nat) (hn:n < nodes.length) (h1:∀ i,i < n → insG L (nodes.getD i ([],[],[],[],[])).2.2.1 = true) (h2:insG L (nodes.getD n ([],[],[],[],[])).2.2.1 = false):linkV L nodes out = (13,(n:Int)):=by
 have e:firstG (fun i => !insG L (nodes.getD i ([],[],[],[],[])).2.2.1) nodes.length 0 = some n:=by
  refine firstG_some _ _ 0 n (Nat.zero_le _) (by omega) (fun j _ hj => ?_) (by rw [h2]; rfl)
  rw [h1 j hj]; rfl
 unfold linkV
 rw [e]
theorem link_out (L:List Str) (nodes:List NodeD) (out:List ValD) (h1:∀ i,i < nodes.length → insG L (nodes.getD i ([],[],[],[],[])).2.2.1 = true):linkV L nodes out = if (out.all fun v => decide (0 ≤ findG L v.1)) = true then (0,0) else (13,-1):=by
 have e:firstG (fun i => !insG L (nodes.getD i ([],[],[],[],[])).2.2.1) nodes.length 0 = none:=by
  refine firstG_none _ _ _ (fun j _ hj => ?_)
  rw [h1 j (by omega)]; rfl
 unfold linkV
 rw [e]
theorem ins_take (L:List Str) (l:List Str) (n:Nat) (h:n < l.length):insG L (l.take (n + 1)) = (insG L (l.take n) && (decide (l.getD n [] = []) || decide (0 ≤ findG L (l.getD n [])))):=by
 unfold insG
 rw [List.take_add_one,List.all_append,List.getD_eq_getElem?_getD,List.getElem?_eq_getElem h]
 simp
theorem ins_cut (L:List Str) (l:List Str) (n:Nat) (h:n < l.length) (hx:l.getD n [] ≠ []) (hf:findG L (l.getD n []) < 0):insG L l = false:=by
 unfold insG
 rw [List.all_eq_false]
 refine ⟨l.getD n [],getD_mem9 h,?_⟩
 rw [decide_eq_false hx,decide_eq_false (by omega)]; decide
theorem map_take9 {α β:Type} (f:α → β) (l:List α) (z:α) (n:Nat) (h:n < l.length):(l.take (n + 1)).map f = (l.take n).map f ++ [f (l.getD n z)]:=by
 rw [List.take_add_one,List.map_append,List.getD_eq_getElem?_getD,List.getElem?_eq_getElem h]
 rfl
theorem bares_getD:∀ (l:List NodeD) (i k:Nat),i < l.length → (baresG k l)[i]? = some (bareG (k + i) (l.getD i ([],[],[],[],[])))
 | [],i,k,h => by simp at h
 | x :: r,0,k,h => rfl
 | x :: r,i + 1,k,h => by
   show (baresG (k + 1) r)[i]? = _
   rw [bares_getD r i (k + 1) (by simpa using h),show k + 1 + i = k + (i + 1) by omega]
   rfl
theorem mix_start {L:List Str} {nodes:List NoA} {l:List GnA} (h:l.map GnA.d = baresG 0 (nodes.map NoA.d)):mixG L 0 nodes l:=by
 have hl:l.length = nodes.length:=by
  have:=congrArg List.length h
  rw [List.length_map,bares_len,List.length_map] at this; exact this
 refine ⟨hl,fun i hi => ?_⟩
 rw [if_neg (by omega)]
 have h1:(l.map GnA.d)[i]? = some (bareG (0 + i) ((nodes.map NoA.d).getD i ([],[],[],[],[]))):=by rw [h]; exact bares_getD _ _ _ (by rw [List.length_map]; exact hi)
 rw [List.getElem?_map,List.getElem?_eq_getElem (by omega)] at h1
 simp only [Option.map_some,Option.some.injEq,Nat.zero_add] at h1
 rw [List.getD_eq_getElem?_getD,List.getElem?_eq_getElem (by omega),Option.getD_some,h1,getD_map9 NoA.d nodes noNoA _ hi]
theorem mix_step {L:List Str} {nodes:List NoA} {l:List GnA} {n:Nat} {y:GnA} (h:mixG L n nodes l) (hn:n < nodes.length) (hy:y.d = linkG L n (nodes.getD n noNoA).d):mixG L (n + 1) nodes (l.set n y):=by
 refine ⟨by rw [List.length_set]; exact h.1,fun i hi => ?_⟩
 rw [List.getD_eq_getElem?_getD,List.getElem?_set]
 by_cases e:n = i
 ·subst e
  rw [if_pos rfl,if_pos (by rw [h.1]; exact hn),if_pos (by omega)]
  exact hy
 ·rw [if_neg e,← List.getD_eq_getElem?_getD,h.2 i hi]
  by_cases g:i < n
  ·rw [if_pos g,if_pos (by omega)]
  ·rw [if_neg g,if_neg (by omega)]
theorem NM.look {w:World} {mb:Nat} {L:List Str} (h:NM w mb L):∃ D:DataW Unit,w.ownsMap Tryz.prog 9 (plainElem Tryz.prog 3) mb L.length D ∧ MapD D L:=h
theorem NM.cells {w:World} {mb g:Nat} {L:List Str} {cur:Array Value} {t:TypeId} (h:NM w mb L) (hh:w.heap[g]? = some (.cells cur t (0,0))):mb ≠ g:=by
 intro e; subst e
 obtain ⟨D,⟨es,cl,h1,_⟩,_⟩:=h
 rw [h1] at hh; cases hh
theorem gr_set {w:World} {g j:Nat} {u:Value}:w.grownBy (w.setCell ⟨g,j,none⟩ u) (some g) :=
 ⟨rfl,rfl,rfl,by simp [World.setCell],fun b hb hne => Below.heap_setCell _ _ _ _ (fun e => hne (by simp only at e; rw [e]))⟩
theorem gr_below {w w':World} (h:Below w.heap.size w w') (row:Option Nat):w.grownBy w' row:=⟨h.os,h.tape,h.output,h.size,fun b hb _ => h.block b hb⟩
theorem gr_hold {OK:Nat → Prop} {w w':World} {row:Option Nat} (h:w.grownBy w' row) (hn:∀ b,OK b → row ≠ some b):Hold OK w w':=⟨h.size,fun b hb hl => h.block b hl (fun e => hn b hb e.symm)⟩
theorem gr_bel {w0 w w':World} {row:Option Nat} (hb:Below w0.heap.size w0 w) (h:w.grownBy w' row) (hr:∀ g,row = some g → w0.heap.size ≤ g):Below w0.heap.size w0 w' :=
 ⟨h.os.trans hb.os,h.tape.trans hb.tape,h.output.trans hb.output,Nat.le_trans hb.size h.size,fun b hl => (h.block b (Nat.lt_of_lt_of_le hl hb.size) (fun e => by have:=hr b e.symm; omega)).trans (hb.block b hl)⟩
theorem NM.gr {w w':World} {mb g:Nat} {L:List Str} (h:NM w mb L) (k:w.grownBy w' (some g)) (hne:mb ≠ g):NM w' mb L:=h.block (k.block mb h.lt (fun e => hne (by simpa using e)))
theorem RowN.gr {β:Type} {t:TypeId} {k:Nat} {cells:β → List Value} {w w':World} {g cap:Nat} {l:List β} {row:Option Nat} (h:RowN t k cells w g cap l) (m:w.grownBy w' row) (hne:row ≠ some g):RowN t k cells w' g cap l:=h.block (m.block g h.lt (fun e => hne e.symm))
theorem RowI.below {w w':World} {base:Nat} {v:Value} {xs:List Int} (h:RowI w base v xs) (hb:Below w.heap.size w w'):RowI w' base v xs:=h.block (fun g hg => hb.block g (h.lt9 g hg).2)
theorem RowI.off {w:World} {base g:Nat} {v:Value} {xs:List Int} (h:RowI w base v xs) (hg:g < base):v.ownBlock ≠ some g:=fun e => by have:=(h.lt9 g e).1; omega
theorem RowI.set9 {w:World} {base g j:Nat} {v u:Value} {xs:List Int} (h:RowI w base v xs) (hg:g < base):RowI (w.setCell ⟨g,j,none⟩ u) base v xs:=h.block (fun b hb => Below.heap_setCell _ _ _ _ (fun e => by have:=(h.lt9 b hb).1; simp only at e; omega))
theorem cell_new9 (w:World) (u:Value) (t:TypeId):(w.alloc (.cells #[u] t)).cell? ⟨w.heap.size,0,none⟩ = some u:=(Box.cell (Box.new _ _ _) 0).trans rfl
theorem lit_i64 {a b:Int} (h:(DataW.lit (.int .i64 a):DataW Unit) = .lit (.int .i64 b)):a = b:=by
 injection h with h1
 injection h1
theorem step_append_num {P:Program} {ops:Array Oper} {o:Oper} {a:Act} {w:World} {K:Act → World → Prop} {Q:Exit → Act → World → Prop} {E:Prop} (hg:o.guard = none) (s x:Operand) (t:TypeId)
  (ho:o.op = .call { callee:=.builtin .append,args:=#[s,x],argTypes:=#[t,t] })
  (base:Nat) (i:TypeInfo) (ht:P.underlying t = some (.slice 3)) (hi:P.info? 3 = some i) (hz:i.zero = some (.int .i64 0)) (hsize:i.size = 1) (hby:i.bytes = 8)
  (v:Value) (xs:List Int) (hs:a.eval s = v) (hown:RowI w base v xs)
  (ad:Addr) (c:Nat) (y:Int) (hx:a.eval x = .slice (some ad) 1 c) (hc:w.cell? ad = some (.int .i64 y))
  (hl:xs.length ≤ 1000000000) (hbase:base ≤ w.heap.size)
  (hK:∀ v' w',RowI w' base v' (xs ++ [y]) → w.grownBy w' v.ownBlock → K (a.put o.dst v') w') :
  if Region.wanted o (yielded ops a.tmps) = true then Oper.wp P o a w K Q else E:=by
 have hw:Region.wanted o (yielded ops a.tmps) = true:=by simp [Region.wanted,hg]
 rw [if_pos hw]
 obtain ⟨v',w',hr,h2,h3,h4,h5⟩:=run_append_own_at (P:=P) w base t o.type 3 i (.int .i64 0) 1 8 ht hi hz hsize hby rfl (by omega) v xs.length (xs.map (Value.int .i64)) hown ad 1 c [.int .i64 y] rfl (fun j u hj => by
  have e:j = 0:=by
   have:=(List.getElem?_eq_some_iff.1 hj).1
   simp at this; omega
  subst e
  simp only [List.getElem?_cons_zero,Option.some.injEq] at hj
  rw [← hj]; exact hc) (fun u hu => by simp only [List.mem_singleton] at hu; subst hu; rfl) (by unfold maxLen; omega) (by omega) hbase
 unfold Oper.wp execOp
 simp only [ho,resolve,invoke,builtin,Sem.run_bind,Sem.run_pure,Result.andThen_ok,List.map_toArray,List.map_cons,List.map_nil,hs,hx,hr]
 refine hK _ _ ?_ h3
 unfold RowI
 rw [List.length_append,List.map_append]
 exact h2
theorem yields_lookup9 {ops:Array Oper} {S:World → Prop} {o:Oper} {a:Act} {T:TypeId} (hw:Region.wanted o (yielded ops a.tmps) = true) (m x:Operand) (ho:o.op = .lookup T m x false) {mv xv r:Value} (hm:a.eval m = mv) (hx:a.eval x = xv)
  (h:∀ v,S v → (Instr.lookup T mv xv false).run Tryz.prog v = .ok r v):YieldsIf Tryz.prog ops S o r a :=
 Or.inl ⟨hw,fun v hv => by simp only [execOp,ho,hm,hx,Sem.run_bind,h v hv,Result.andThen_ok,Sem.run_pure]⟩
theorem NM.run {w:World} {mb:Nat} {L:List Str} {s:Str} (h:NM w mb L) (hs:isB s) (hl:s.length ≤ maxLen) (hf:0 ≤ findG L s):(Instr.lookup 68 (.map (some mb)) (.string (strOfNums s)) false).run Tryz.prog w = .ok (.int .i64 (findG L s)) w:=by
 obtain ⟨D,hO,hD⟩:=h
 obtain ⟨c,hrun,hat,_⟩:=hO.lookup_int law9 Tryz.underlying68 Tryz.underlying3 (zeroE9 _) (keyN_of hl)
 have:=lit_i64 (hat.symm.trans (hD.at' s hs hf))
 subst this
 exact hrun
theorem RowI.li {w:World} {base:Nat} {p:Option Addr} {c n:Nat} {xs:List Int} {OK:Nat → Prop} (h:RowI w base (.slice p n c) xs) (hw:∀ x ∈ xs,(Lit.int .i64 x).wf = true) (hn:n = xs.length) (ho:∀ b,base ≤ b → OK b):Li .i64 OK w p c xs:=by
 obtain ⟨q,cap,e,hL,hF⟩:=h.form
 injection e with e1 _ e2
 subst e1; subst e2
 exact ⟨hL.ints hw,fun b o e hp => ho b (hF b o e hp).1⟩
theorem RowI.mono {w:World} {base base':Nat} {v:Value} {xs:List Int} (h:RowI w base v xs) (hb:base' ≤ base):RowI w base' v xs:=by
 obtain ⟨l1,h1⟩:=h
 refine ⟨l1,?_⟩
 rcases h1 with h1 | ⟨g,cap,cur,hv,hg,hr⟩
 ·exact .inl h1
 ·exact .inr ⟨g,cap,cur,hv,Nat.le_trans hb hg,hr⟩
theorem findG_wf {L:List Str} (hL:L.length ≤ 1099511627776) (s:Str):(Lit.int .i64 (findG L s)).wf = true:=by
 have h1:=findG_ge L s
 have h2:findG L s ≤ L.length:=by
  by_cases h:0 ≤ findG L s
  ·obtain ⟨n,e,hn,_⟩:=findG_lt h
   omega
  ·omega
 exact WalkArith.wf_i64 (by omega)
theorem findG_wfs {L:List Str} (hL:L.length ≤ 1099511627776) (l:List Str):∀ x ∈ l.map (findG L),(Lit.int .i64 x).wf = true:=fun x hx => by
 obtain ⟨s,_,rfl⟩:=List.mem_map.1 hx
 exact findG_wf hL s
theorem gn_linked {OK:Nat → Prop} {u w1 w2:World} {x:GnA} {a b:List Int} {q q':Option Addr} {c c':Nat} {base1 base2:Nat} (hx:GnIn OK u x) (h1:Hold OK u w2) (ha:RowI w1 base1 (.slice q a.length c) a) (h2:Hold OK w1 w2) (hb:RowI w2 base2 (.slice q' b.length c') b)
  (wa:∀ y ∈ a,(Lit.int .i64 y).wf = true) (wb:∀ y ∈ b,(Lit.int .i64 y).wf = true) (o1:∀ k,base1 ≤ k → OK k) (o2:∀ k,base2 ≤ k → OK k):GnIn OK w2 ((x.withIn a q c).withOut b q' c') :=
 ⟨hx.1,hx.2.1.hold h1,(ha.li wa rfl o1).hold h2,hb.li wb rfl o2,hx.2.2.2.2⟩
theorem bare_in {x:GnA} (h:Bare x):x.withIn [] none 0 = x:=by
 obtain ⟨op,cs,D,ins,qi,ci,outs,qo,co,src,hc⟩:=x
 obtain ⟨h1,h2,h3,_,_,_⟩:=h
 simp only at h1 h2 h3
 subst h1; subst h2; subst h3
 rfl
theorem bare_out {x:GnA} (h:Bare x) (ins:List Int) (q:Option Addr) (c:Nat):(x.withIn ins q c).withOut [] none 0 = x.withIn ins q c:=by
 obtain ⟨op,cs,D,ins',qi,ci,outs,qo,co,src,hc⟩:=x
 obtain ⟨_,_,_,h1,h2,h3⟩:=h
 simp only at h1 h2 h3
 subst h1; subst h2; subst h3
 rfl
theorem set_self9 {α:Type} (l:List α) (n:Nat) (z:α) (h:n < l.length):l.set n (l.getD n z) = l:=by
 refine List.ext_getElem? (fun i => ?_)
 rw [List.getElem?_set]
 by_cases e:n = i
 ·subst e
  rw [if_pos rfl,if_pos h,List.getD_eq_getElem?_getD,List.getElem?_eq_getElem h]; rfl
 ·rw [if_neg e]
theorem getD_set9 {α:Type} (l:List α) (n:Nat) (x z:α) (h:n < l.length):(l.set n x).getD n z = x:=by
 rw [List.getD_eq_getElem?_getD,List.getElem?_set,if_pos rfl,if_pos h]; rfl
theorem in_in (x:GnA) (a b:List Int) (q q':Option Addr) (c c':Nat):gnCells (x.withIn b q' c') = (gnCells (x.withIn a q c)).set 37 (.slice q' b.length c'):=by
 rw [gn_in,gn_in,List.set_set]
theorem out_out (x:GnA) (a b:List Int) (q q':Option Addr) (c c':Nat):gnCells (x.withOut b q' c') = (gnCells (x.withOut a q c)).set 38 (.slice q' b.length c'):=by
 rw [gn_out,gn_out,List.set_set]
theorem RowN.inPut {w:World} {g cap n:Nat} {LN:List GnA} {x:GnA} {a b:List Int} {q q':Option Addr} {c c':Nat} (h:RowN 51 40 gnCells w g cap (LN.set n (x.withIn a q c))) (hn:n < LN.length) :
  RowN 51 40 gnCells (w.setCell ⟨g,n * 40 + 37,none⟩ (.slice q' b.length c')) g cap (LN.set n (x.withIn b q' c')):=by
 have:=RowN.put gnWd noGnA h (i:=n) (j:=37) (x:=x.withIn b q' c') (u:=.slice q' b.length c') (by rw [List.length_set]; exact hn) (by omega) (by rw [getD_set9 _ _ _ _ hn]; exact in_in x a b q q' c c')
 rw [List.set_set] at this
 exact this
theorem RowN.outPut {w:World} {g cap n:Nat} {LN:List GnA} {x:GnA} {a b:List Int} {q q':Option Addr} {c c':Nat} (h:RowN 51 40 gnCells w g cap (LN.set n (x.withOut a q c))) (hn:n < LN.length) :
  RowN 51 40 gnCells (w.setCell ⟨g,n * 40 + 38,none⟩ (.slice q' b.length c')) g cap (LN.set n (x.withOut b q' c')):=by
 have:=RowN.put gnWd noGnA h (i:=n) (j:=38) (x:=x.withOut b q' c') (u:=.slice q' b.length c') (by rw [List.length_set]; exact hn) (by omega) (by rw [getD_set9 _ _ _ _ hn]; exact out_out x a b q q' c c')
 rw [List.set_set] at this
 exact this
theorem RowN.inAt {w:World} {g cap n:Nat} {LN:List GnA} {x:GnA} {a:List Int} {q:Option Addr} {c:Nat} (h:RowN 51 40 gnCells w g cap (LN.set n (x.withIn a q c))) (hn:n < LN.length):w.cell? ⟨g,n * 40 + 37,none⟩ = some (.slice q a.length c) :=
 RowN.at gnWd (z:=noGnA) h (i:=n) (j:=37) (by rw [List.length_set]; exact hn) (by rw [getD_set9 _ _ _ _ hn]; exact gn_37 _)
theorem RowN.outAt {w:World} {g cap n:Nat} {LN:List GnA} {x:GnA} {a:List Int} {q:Option Addr} {c:Nat} (h:RowN 51 40 gnCells w g cap (LN.set n (x.withOut a q c))) (hn:n < LN.length):w.cell? ⟨g,n * 40 + 38,none⟩ = some (.slice q a.length c) :=
 RowN.at gnWd (z:=noGnA) h (i:=n) (j:=38) (by rw [List.length_set]; exact hn) (by rw [getD_set9 _ _ _ _ hn]; exact gn_38 _)
end Go.Proofs.YtbmmcbagdomonaaGreat
