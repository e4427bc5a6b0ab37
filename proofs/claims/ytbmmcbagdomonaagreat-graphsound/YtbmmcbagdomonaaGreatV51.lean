import Derived.Test.YtbmmcbagdomonaaGreatV36
import Derived.Test.YtbmmcbagdomonaaGreatV40
import Derived.Test.YtbmmcbagdomonaaGreatV44
import Derived.Test.YtbmmcbagdomonaaGreatV48
import Derived.Test.YtbmmcbagdomonaaGreatV50
set_option maxRecDepth 100000
set_option maxHeartbeats 40000000
namespace Go.Proofs.YtbmmcbagdomonaaGreat
open Go.RowKit
set_option linter.unusedVariables false
set_option linter.unusedSimpArgs false
def keepL {α:Type}:List Bool → List α → List α
 | b :: bs,x :: xs => if b = true then x :: keepL bs xs else keepL bs xs
 | _,_ => []
def pruneG (g:GrD):GrD:=⟨g.vals,keepL (liveG g) g.nodes,g.inp,g.out⟩
theorem keep_take {α:Type} (z:α):∀ (bs:List Bool) (xs:List α) (n:Nat),n < bs.length → n < xs.length → keepL (bs.take (n + 1)) (xs.take (n + 1)) = keepL (bs.take n) (xs.take n) ++ (if bs.getD n false = true then [xs.getD n z] else [])
 | [],xs,n,h,_ => by simp at h
 | b :: bs,[],n,_,h => by simp at h
 | b :: bs,x :: xs,0,_,_ => by cases b <;> simp [keepL]
 | b :: bs,x :: xs,n + 1,h1,h2 => by
   have ih:=keep_take z bs xs n (by simpa using h1) (by simpa using h2)
   rw [List.take_succ_cons,List.take_succ_cons,List.take_succ_cons,List.take_succ_cons]
   unfold keepL
   rw [ih]
   cases b <;> simp
theorem keep_map {α β:Type} (f:α → β):∀ (bs:List Bool) (xs:List α),(keepL bs xs).map f = keepL bs (xs.map f)
 | [],xs => by cases xs <;> rfl
 | b :: bs,[] => rfl
 | b :: bs,x :: xs => by
   rw [List.map_cons]
   unfold keepL
   cases b
   ·exact keep_map f bs xs
   ·show f x :: (keepL bs xs).map f = f x :: keepL bs (xs.map f)
    rw [keep_map f bs xs]
theorem keep_mem {α:Type}:∀ (bs:List Bool) (xs:List α),∀ x ∈ keepL bs xs,x ∈ xs
 | [],xs,x,h => by cases xs <;> simp [keepL] at h
 | b :: bs,[],x,h => by simp [keepL] at h
 | b :: bs,y :: ys,x,h => by
   unfold keepL at h
   cases b
   ·exact List.mem_cons_of_mem _ (keep_mem bs ys x h)
   ·rcases List.mem_cons.1 h with e | e
    ·rw [e]; exact List.mem_cons_self
    ·exact List.mem_cons_of_mem _ (keep_mem bs ys x e)
theorem keep_len {α:Type}:∀ (bs:List Bool) (xs:List α),(keepL bs xs).length ≤ xs.length
 | [],xs => by cases xs <;> simp [keepL]
 | b :: bs,[] => by simp [keepL]
 | b :: bs,y :: ys => by
   have:=keep_len bs ys
   unfold keepL
   cases b
   ·show (keepL bs ys).length ≤ _; rw [List.length_cons]; omega
   ·show (y :: keepL bs ys).length ≤ _; rw [List.length_cons,List.length_cons]; omega
theorem step_slice9 {P:Program} {ops:Array Oper} {o:Oper} {a:Act} {w:World} {K:Act → World → Prop} {Q:Exit → Act → World → Prop} {E:Prop} (hg:o.guard = none) (t e:TypeId) (x:Operand) (ho:o.op = .buildSlice t 1 #[(0,x)])
  (cs:Array Value) (hx:a.eval x = .agg cs) (ie:TypeInfo) (z:Value) (k:Nat)
  (hu:P.underlying t = some (.slice e)) (hie:P.info? e = some ie) (hz:ie.zero = some z) (hk:ie.size = k) (hs:cs.size = k) (hpos:0 < k) (hsm:k ≤ 1000)
  (h:K (a.put o.dst (.slice (some ⟨w.heap.size,0,none⟩) 1 1)) (w.alloc (.cells cs e))):if Region.wanted o (yielded ops a.tmps) = true then Oper.wp P o a w K Q else E:=by
 have hw:Region.wanted o (yielded ops a.tmps) = true:=by simp [Region.wanted,hg]
 rw [if_pos hw]
 refine wp_buildSlice t e 1 _ ho cs ie z hu hie hz (by rw [hk]; omega) (by rw [hk]; omega) ?_ h
 have ee:(Array.map (fun (i,x) => (i,a.eval x)) #[(0,x)]).toList = [(0,.agg cs)]:=by simp [hx]
 rw [ee,hk]
 exact fill_one9 k _ cs (by simp) hs
theorem gn1_9 {w:World} {k:Nat} {A:GnA} {cs:Array Value} (hk:w.heap.size = k) (hc:cs = (gnCells A).toArray):Rc 40 gnCells noGnA (w.alloc (.cells cs 51)) (some ⟨k,0,none⟩) 1 [A]:=by
 subst hk
 exact rc_new gnWd w _ hc
theorem Bm.box {w:World} {b:Nat} {dl:List Bool} (h:Bm w b dl):Box w b (dl.flatMap bc8).toArray 4:=h
theorem cprune9_any (G:GrA) (OK:Nat → Prop) (w:World) (h:GrIn OK w G) (hs:okGr G) (hS:G.out.length + (G.nodes.map fun n => n.ins.length).sum ≤ 4611686018427387904) :
  Calls Tryz.prog 15 #[grV G] w fun e w' => ∃ a:GrA,e = .returned (grV a) ∧ a.d = pruneG G.d ∧ GrIn (fun b => w.heap.size ≤ b) w' a ∧ Below w.heap.size w w':=by
 have CL:=hide (fun v (hv:Below w.heap.size w v) => clive9_any G OK v (grP.hold h (Hold.below hv)) (Nat.le_trans hs.nn (by omega)) hS)
 obtain ⟨LB,hLB⟩:∃ L,liveG G.d = L:=⟨_,rfl⟩
 have HPG:Hid (pruneG G.d = ⟨G.vals.map VgA.d,keepL LB (G.nodes.map GnA.d),G.inp,G.out⟩):=hide (by rw [← hLB]; rfl)
 have HLBL:Hid (LB.length = G.nodes.length):=hide (by rw [← hLB]; unfold liveG; rw [live_len]; unfold GrA.d; simp)
 rw [hLB] at CL
 clear hLB
 have HS:=hide hs
 have HG:=hide h
 clear h hs hS
 obtain ⟨vals,qv,cv,nodes,qn,cn,inp,qi,ci,out,qo,co⟩:=G
 unfold grV grCells at CL
 unfold grV grCells
 simp only at CL HLBL HPG ⊢
 obtain ⟨i1,hi1,y1,z1,b1⟩:=info_parts Tryz.info9Gn
 obtain ⟨w3,hW0⟩:∃ W,(w.alloc (.cells #[.slice qv vals.length cv,.slice qn nodes.length cn,.slice qi inp.length ci,.slice qo out.length co] 32)).alloc (.cells grZ 32) = W:=⟨_,rfl⟩
 have X0:Hid (Box w3 w.heap.size #[.slice qv vals.length cv,.slice qn nodes.length cn,.slice qi inp.length ci,.slice qo out.length co] 32):=hide (by rw [← hW0]; exact (Box.new _ _ _).alloc _)
 have R0:Hid (Box w3 (w.heap.size + 1) grZ 32):=hide (by rw [← hW0]; have h:=Box.new (w.alloc (.cells #[.slice qv vals.length cv,.slice qn nodes.length cn,.slice qi inp.length ci,.slice qo out.length co] 32)) grZ 32; simp only [World.size_alloc] at h; exact h)
 have B0:Hid (Below w.heap.size w w3):=hide (by rw [← hW0]; exact bl_tr (al1p _ _) (al1p _ _))
 have HSZ:Hid (w3.heap.size = w.heap.size + 2):=hide (by rw [← hW0]; simp)
 have G0:Hid (GrIn (fun b => b < w.heap.size) w3 ⟨vals,qv,cv,nodes,qn,cn,inp,qi,ci,out,qo,co⟩):=hide (grP.hold (grP.mono (uh HG) (fun b _ hl => hl)) (Hold.below (uh B0)))
 have x0:=(uh X0).cell
 go_enter Tryz.func15,Tryz.ntmps15
 go_upto_region 1 with fail
 unfold grZ at hW0
 (try rw [hW0])
 clear hW0
 go_upto_region 3 with fail
 obtain ⟨k1,hk1⟩:∃ k,w.heap.size = k:=⟨_,rfl⟩
 have HK1:=hide hk1
 rw [hk1] at X0 HSZ R0
 (try rw [hk1])
 clear hk1 x0
 obtain ⟨wa,hwa⟩:∃ u,w3.alloc (.cells #[.slice qv vals.length cv,.slice none 0 0,.slice qi inp.length ci,.slice qo out.length co] 32) = u:=⟨_,rfl⟩
 have PA:Hid (Box wa w3.heap.size #[.slice qv vals.length cv,.slice none 0 0,.slice qi inp.length ci,.slice qo out.length co] 32):=hide (by rw [← hwa]; exact Box.new _ _ _)
 have KA0:Hid (Below w3.heap.size w3 wa):=hide (by rw [← hwa]; exact al1p _ _)
 rw [hwa]
 clear hwa
 obtain ⟨kp,hkp⟩:∃ k,w3.heap.size = k:=⟨_,rfl⟩
 have HKP:=hide hkp
 rw [hkp] at PA ⊢
 clear hkp
 have xa:=((uh X0).below (uh KA0)).cell
 go_wp2_with fail
 refine (uh CL _ (bl_tr (uh B0) (uh KA0))).mono ?_
 rintro e w4 ⟨⟨lb,rfl,hlb,hbm⟩,hb⟩
 have B34:=hide (bl_tr (uh KA0) hb)
 have PX4:=hide ((uh PA).below hb)
 have LB4:=hide hbm
 have HLK:Hid (lb ≠ kp):=hide (by have:=(uh PA).lt; omega)
 clear hlb hbm hb xa CL PA
 have hnl:nodes.length ≤ 274877906944:=(uh HS).nn
 have HNN:=hide hnl
 clear hnl
 go_wp2_with fail
 go_loopw [11] (fun iv wr => ∃ (n:Nat) (LP:List GnA) (q:Option Addr) (c:Nat),iv = .int .i64 n ∧ n ≤ nodes.length ∧ Hid (Box wr kp #[.slice qv vals.length cv,.slice q LP.length c,.slice qi inp.length ci,.slice qo out.length co] 32) ∧ Hid (OwnR 51 40 gnCells w3 wr (.slice q LP.length c) LP) ∧ Hid (LP = keepL (LB.take n) (nodes.take n)) ∧ Hid (LP.length ≤ n) ∧ Hid (Bm wr lb LB)) (fun iv _ => nodes.length - (intOf iv).toNat)
 case atStart => exact ⟨0,[],none,0,rfl,by omega,PX4,hide (OwnR.nil _ (uh B34)),hide rfl,hide (Nat.le_refl _),LB4⟩
 case round =>
  obtain ⟨n,LP,q,c,rfl,hn,HPX,HO,HKL,HLP,HLBm⟩:=hrel
  have BW:=hide (uh HO).2
  have hlen:=uh HNN
  by_cases hlt:n < nodes.length
  ·have hi:(n:Int) < (nodes.length:Int):=by omega
   obtain ⟨b5,o5,hq5,hb5,_⟩:=(uh G0).2.1.1.lies (show 0 < nodes.length by omega)
   simp only at hq5
   subst hq5
   have HE:=hide (fun v (hv:Below w3.heap.size w3 v) => Rc.at9 ((uh G0).2.1.1.below hv) (i:=n) hlt)
   have HFL:=hide (keep_take noGnA LB nodes n (by rw [uh HLBL]; exact hlt) hlt)
   have k5:=(uh HLBm).at (m:=n) (by rw [uh HLBL]; exact hlt)
   have X9:=hide ((uh X0).below (uh BW))
   simp only at HE
   generalize nodes.getD n noGnA = x at HE HFL
   obtain ⟨bb,hbb⟩:∃ b,LB.getD n false = b:=⟨_,rfl⟩
   rw [hbb] at HFL k5
   clear hbb
   cases bb with
   | false =>
     have HF0:=hide (show keepL (LB.take (n + 1)) (nodes.take (n + 1)) = keepL (LB.take n) (nodes.take n) by rw [uh HFL]; simp)
     go_wp2_with fail
     go_roundw
     case rel => exact ⟨n + 1,LP,q,c,by go_num,by omega,HPX,HO,hide (by rw [uh HF0]; exact uh HKL),hide (by have:=uh HLP; omega),HLBm⟩
     case measure => (simp [intOf] <;> omega)
   | true =>
     have HF1:Hid (keepL (LB.take (n + 1)) (nodes.take (n + 1)) = LP ++ [x]):=hide (by rw [uh HFL,← uh HKL]; simp)
     have KA:Hid (∀ v,Below w3.heap.size w3 v → (∀ j,v.cell? ⟨k1,j,none⟩ = (#[.slice qv vals.length cv,.slice (some ⟨b5,o5,none⟩) nodes.length cn,.slice qi inp.length ci,.slice qo out.length co]:Array Value)[j]?) ∧ At8 v b5 (o5 + n * 40) (gnCells x)):=hide (fun v hv => ⟨((uh X0).below hv).cell,uh HE v hv⟩)
     have DD:Hid (Below wr.heap.size wr (wr.drew.alloc (Obj.cells (gnCells x).toArray 51))):=hide (bl_tr (bdrew8 _) (al1p _ _))
     have D1:=hide (bl_tr (uh BW) (bdrew8 _))
     have D2:=hide (bl_tr (uh BW) (uh DD))
     have x9d:=((uh HPX).below (bdrew8 _)).cell
     have x9a:=((uh HPX).below (uh DD)).cell
     have DDb:Hid (Below wr.heap.size wr (wr.alloc (Obj.cells (gnCells x).toArray 51)).drew):=hide (bl_tr (al1p _ _) (bdrew8 _))
     have D2b:=hide (bl_tr (uh BW) (uh DDb))
     have x9b:=((uh HPX).below (uh DDb)).cell
     have ii0:(0:Int) ≤ (n:Int):=by omega
     go_wp2_with fail
     refine wp_region_held_drew (S:=fun v => (∀ j,v.cell? ⟨k1,j,none⟩ = (#[.slice qv vals.length cv,.slice (some ⟨b5,o5,none⟩) nodes.length cn,.slice qi inp.length ci,.slice qo out.length co]:Array Value)[j]?) ∧ At8 v b5 (o5 + n * 40) (gnCells x)) (by kernel_rfl) (uh KA _ (uh D1)) (fun hHeld => ?_)
     refine wpAnyH_take (i:=0) (oi:={ dst:=some 17,op:=_,type:=_,pos:=_,after:=_,guard:=_ }) (v:=?vv1) rfl (by kernel_rfl) (by kernel_rfl) (by kernel_rfl) (fun _ _ _ h => h) (Or.inl ⟨by rfl,?hy1⟩) (by assumption) ?rest1
     case hy1 => (intro w9 hSw; obtain ⟨c9,c8⟩:=hSw; clear c8; (try dsimp only at c9); go_simp; (first | done | with_reducible rfl))
     (try simp only [Act.put,List.setIfInBounds_toArray,List.set_cons_zero,List.set_cons_succ])
     refine wpAnyH_take (i:=2) (oi:={ dst:=some 19,op:=_,type:=_,pos:=_,after:=_,guard:=_ }) (v:=?vv2) rfl (by kernel_rfl) (by kernel_rfl) (by kernel_rfl) (fun _ _ _ h => h) (Or.inl ⟨by rfl,?hy2⟩) (by assumption) ?rest2
     case hy2 => (intro w9 hSw; obtain ⟨c9,c8⟩:=hSw; clear c8; (try dsimp only at c9); go_simp; (first | done | with_reducible rfl))
     (try simp only [Act.put,List.setIfInBounds_toArray,List.set_cons_zero,List.set_cons_succ])
     refine wpAnyH_take (i:=3) (oi:={ dst:=some 20,op:=_,type:=_,pos:=_,after:=_,guard:=_ }) (v:=?vv3) rfl (by kernel_rfl) (by kernel_rfl) (by kernel_rfl) (fun _ _ _ h => h) (Or.inl ⟨by rfl,?hy3⟩) (by assumption) ?rest3
     case hy3 => (intro w9 hSw; obtain ⟨c9,c8⟩:=hSw; clear c8; (try dsimp only at c9); go_simp; (first | done | with_reducible rfl))
     (try simp only [Act.put,List.setIfInBounds_toArray,List.set_cons_zero,List.set_cons_succ])
     refine wpAnyH_take (i:=4) (oi:={ dst:=some 21,op:=_,type:=_,pos:=_,after:=_,guard:=_ }) (v:=?vv4) rfl (by kernel_rfl) (by kernel_rfl) (by kernel_rfl) (fun _ _ _ h => h) (Or.inl ⟨by rfl,?hy4⟩) (by assumption) ?rest4
     case hy4 => (intro w9 hSw; obtain ⟨c9,c8⟩:=hSw; clear c8; (try dsimp only at c9); go_simp; (first | done | with_reducible rfl))
     (try simp only [Act.put,List.setIfInBounds_toArray,List.set_cons_zero,List.set_cons_succ])
     refine wpAnyH_take (i:=5) (oi:={ dst:=some 22,op:=_,type:=_,pos:=_,after:=_,guard:=_ }) (v:=?vv5) rfl (by kernel_rfl) (by kernel_rfl) (by kernel_rfl) (fun _ _ _ h => h) (Or.inl ⟨by rfl,?hy5⟩) (by assumption) ?rest5
     case hy5 => (intro w9 hSw; obtain ⟨c9,c8⟩:=hSw; clear c8; (try dsimp only at c9); go_simp; (first | done | with_reducible rfl))
     (try simp only [Act.put,List.setIfInBounds_toArray,List.set_cons_zero,List.set_cons_succ])
     refine wpAnyH_take (i:=6) (oi:={ dst:=some 23,op:=_,type:=_,pos:=_,after:=_,guard:=_ }) (v:=.agg (gnCells x).toArray) rfl (by kernel_rfl) (by kernel_rfl) (by kernel_rfl) (fun _ _ _ h => h) (yields_loadG aggGn (by rfl) _ rfl rfl (gnWd.2.1 x) (fun v hv => hv.2)) (by assumption) ?_
     (try simp only [Act.put,List.setIfInBounds_toArray,List.set_cons_zero,List.set_cons_succ])
     refine wpAnyH_ready (rs:=[1,7]) (by kernel_rfl) (by simp) ?_
     refine AllReadyH.cons (o:={ dst:=some 18,op:=_,type:=_,pos:=_,after:=_,guard:=_ }) rfl (fun KC hK => ?_) (AllReadyH.cons (o:={ dst:=some 24,op:=_,type:=_,pos:=_,after:=_,guard:=_ }) rfl (fun KC hK => ?_) (AllReadyH.nil))
     ·
      go_simp
      refine hK.out _ _ (uh KA _ (uh D1)) (fun hH2 => ?_)
      clear hK KC hHeld
      (try simp only [Act.put,List.setIfInBounds_toArray,List.set_cons_zero,List.set_cons_succ])
      refine wpAnyH_ready (rs:=[7]) (by kernel_rfl) (by simp) ?_
      refine AllReadyH.cons (o:={ dst:=some 24,op:=_,type:=_,pos:=_,after:=_,guard:=_ }) rfl (fun KC hK => ?_) (AllReadyH.nil)
      refine step_slice9 rfl 29 51 _ rfl (gnCells x).toArray rfl i1 gnZ 40 Tryz.underlying29 hi1 y1 z1 (gnSize x) (by omega) (by omega) ?_
      refine hK.out _ _ (uh KA _ (uh D2)) (fun hH3 => ?_)
      clear hK KC hH2
      (try simp only [Act.put,List.setIfInBounds_toArray,List.set_cons_zero,List.set_cons_succ])
      refine wpAnyH_ready (rs:=[8]) (by kernel_rfl) (by simp) ?_
      refine AllReadyH.cons (o:={ dst:=some 25,op:=_,type:=_,pos:=_,after:=_,guard:=_ }) rfl (fun KC hK => ?_) (AllReadyH.nil)
      (refine step_append_rc gnWd noGnA rfl (.tmp 18) (.tmp 24) 29 rfl w3 51 i1 _ 432 Tryz.underlying29 hi1 y1 z1 b1 rfl _ LP (by simp [Act.eval]) ((uh HO).below (uh DD)) _ _ [x] (by simp [Act.eval]) (gn1_9 rfl rfl) (by have:=uh HLP; simp only [List.length_cons,List.length_nil]; unfold maxLen; omega) (by have:=uh HLP; simp only [List.length_cons,List.length_nil]; omega) ?_; intro v2 w5 O2 G2; have Z9:=hide (((uh HPX).below (uh DD)).grown8 ((uh HO).below (uh DD)) (by decide) G2); have M9:=hide (((uh HLBm).box.below (uh DD)).grown8 ((uh HO).below (uh DD)) (by decide) G2); obtain ⟨q2,c2,e2,_⟩:=O2.form (z:=noGnA) gnWd; subst e2; have K2:=hide O2.2; have z9:=(uh Z9).cell; have f9:=(uh Z9).frozen; have l9:=(uh Z9).lt; replace O2:=hide O2; clear G2)
      refine hK.out _ _ (uh KA _ (uh K2)) (fun hH4 => ?_)
      clear hK KC hH3
      (try simp only [Act.put,List.setIfInBounds_toArray,List.set_cons_zero,List.set_cons_succ])
      refine wpAnyH_take (i:=9) (oi:={ dst:=some 26,op:=_,type:=_,pos:=_,after:=_,guard:=_ }) (v:=?vv6) rfl (by kernel_rfl) (by kernel_rfl) (by kernel_rfl) (fun _ _ _ h => h) (Or.inl ⟨by rfl,?hy6⟩) (by assumption) ?rest6
      case hy6 => (intro w9 hSw; obtain ⟨c9,c8⟩:=hSw; clear c8; (try dsimp only at c9); go_simp; (first | done | with_reducible rfl))
      (try simp only [Act.put,List.setIfInBounds_toArray,List.set_cons_zero,List.set_cons_succ])
      refine wpAnyH_ready (rs:=[10]) (by kernel_rfl) (by simp) ?_
      refine AllReadyH.cons (o:={ dst:=none,op:=_,type:=_,pos:=_,after:=_,guard:=_ }) rfl (fun KC hK => ?_) (AllReadyH.nil)
      go_simp
      refine hK.out _ _ (uh KA _ (Below.setCell (uh K2) (p:=⟨kp,1,none⟩) (Nat.le_of_eq (uh HKP)) _)) (fun hH5 => ?_)
      clear hK KC hH4
      (try simp only [Act.put,List.setIfInBounds_toArray,List.set_cons_zero,List.set_cons_succ])
      refine wpAnyH_done (by kernel_rfl) ?_ _
      go_wp2_with fail
      go_roundw
      case rel => exact ⟨n + 1,LP ++ [x],q2,c2,by go_num,by omega,hide (by rw [List.length_append,List.length_singleton]; exact (uh Z9).same 1 _),hide ((uh O2).set8 (uh Z9) (by decide) (Nat.le_of_eq (uh HKP))),hide (uh HF1).symm,hide (by have:=uh HLP; rw [List.length_append]; simp only [List.length_cons,List.length_nil]; omega),hide (Box.other (uh M9) (uh HLK) _ _)⟩
      case measure => (simp [intOf] <;> omega)
     ·
      refine step_slice9 rfl 29 51 _ rfl (gnCells x).toArray rfl i1 gnZ 40 Tryz.underlying29 hi1 y1 z1 (gnSize x) (by omega) (by omega) ?_
      refine hK.out _ _ (uh KA _ (uh D2)) (fun hH2 => ?_)
      clear hK KC hHeld
      (try simp only [Act.put,List.setIfInBounds_toArray,List.set_cons_zero,List.set_cons_succ])
      refine wpAnyH_ready (rs:=[1]) (by kernel_rfl) (by simp) ?_
      refine AllReadyH.cons (o:={ dst:=some 18,op:=_,type:=_,pos:=_,after:=_,guard:=_ }) rfl (fun KC hK => ?_) (AllReadyH.nil)
      go_simp
      refine hK.out _ _ (uh KA _ (uh D2b)) (fun hH3 => ?_)
      clear hK KC hH2
      (try simp only [Act.put,List.setIfInBounds_toArray,List.set_cons_zero,List.set_cons_succ])
      refine wpAnyH_ready (rs:=[8]) (by kernel_rfl) (by simp) ?_
      refine AllReadyH.cons (o:={ dst:=some 25,op:=_,type:=_,pos:=_,after:=_,guard:=_ }) rfl (fun KC hK => ?_) (AllReadyH.nil)
      (refine step_append_rc gnWd noGnA rfl (.tmp 18) (.tmp 24) 29 rfl w3 51 i1 _ 432 Tryz.underlying29 hi1 y1 z1 b1 rfl _ LP (by simp [Act.eval]) ((uh HO).below (uh DDb)) _ _ [x] (by simp [Act.eval]) ((gn1_9 rfl rfl).below (bdrew8 _)) (by have:=uh HLP; simp only [List.length_cons,List.length_nil]; unfold maxLen; omega) (by have:=uh HLP; simp only [List.length_cons,List.length_nil]; omega) ?_; intro v2 w5 O2 G2; have Z9:=hide (((uh HPX).below (uh DDb)).grown8 ((uh HO).below (uh DDb)) (by decide) G2); have M9:=hide (((uh HLBm).box.below (uh DDb)).grown8 ((uh HO).below (uh DDb)) (by decide) G2); obtain ⟨q2,c2,e2,_⟩:=O2.form (z:=noGnA) gnWd; subst e2; have K2:=hide O2.2; have z9:=(uh Z9).cell; have f9:=(uh Z9).frozen; have l9:=(uh Z9).lt; replace O2:=hide O2; clear G2)
      refine hK.out _ _ (uh KA _ (uh K2)) (fun hH4 => ?_)
      clear hK KC hH3
      (try simp only [Act.put,List.setIfInBounds_toArray,List.set_cons_zero,List.set_cons_succ])
      refine wpAnyH_take (i:=9) (oi:={ dst:=some 26,op:=_,type:=_,pos:=_,after:=_,guard:=_ }) (v:=?vv7) rfl (by kernel_rfl) (by kernel_rfl) (by kernel_rfl) (fun _ _ _ h => h) (Or.inl ⟨by rfl,?hy7⟩) (by assumption) ?rest7
      case hy7 => (intro w9 hSw; obtain ⟨c9,c8⟩:=hSw; clear c8; (try dsimp only at c9); go_simp; (first | done | with_reducible rfl))
      (try simp only [Act.put,List.setIfInBounds_toArray,List.set_cons_zero,List.set_cons_succ])
      refine wpAnyH_ready (rs:=[10]) (by kernel_rfl) (by simp) ?_
      refine AllReadyH.cons (o:={ dst:=none,op:=_,type:=_,pos:=_,after:=_,guard:=_ }) rfl (fun KC hK => ?_) (AllReadyH.nil)
      go_simp
      refine hK.out _ _ (uh KA _ (Below.setCell (uh K2) (p:=⟨kp,1,none⟩) (Nat.le_of_eq (uh HKP)) _)) (fun hH5 => ?_)
      clear hK KC hH4
      (try simp only [Act.put,List.setIfInBounds_toArray,List.set_cons_zero,List.set_cons_succ])
      refine wpAnyH_done (by kernel_rfl) ?_ _
      go_wp2_with fail
      go_roundw
      case rel => exact ⟨n + 1,LP ++ [x],q2,c2,by go_num,by omega,hide (by rw [List.length_append,List.length_singleton]; exact (uh Z9).same 1 _),hide ((uh O2).set8 (uh Z9) (by decide) (Nat.le_of_eq (uh HKP))),hide (uh HF1).symm,hide (by have:=uh HLP; rw [List.length_append]; simp only [List.length_cons,List.length_nil]; omega),hide (Box.other (uh M9) (uh HLK) _ _)⟩
      case measure => (simp [intOf] <;> omega)
  ·have hi:¬ (n:Int) < (nodes.length:Int):=by omega
   have en:n = nodes.length:=by omega
   subst en
   rw [List.take_length,show LB.take nodes.length = LB by rw [← uh HLBL,List.take_length]] at HKL
   obtain ⟨q',c',e',hRc,hRb⟩:=(uh HO).form (z:=noGnA) gnWd
   injection e' with e1 _ e2
   subst e1; subst e2
   have hmem:∀ y ∈ LP,y ∈ nodes:=fun y hy => keep_mem LB nodes y (by rw [← uh HKL]; exact hy)
   have hll:LP.length ≤ nodes.length:=uh HLP
   have CC:=hide (ccopyG9_any ⟨vals,qv,cv,LP,q,c,inp,qi,ci,out,qo,co⟩ (fun _ => True) wr ⟨((uh G0).1.hold vgP (Hold.below (uh BW))).mono vgP (fun _ _ _ => trivial),⟨hRc,fun _ _ _ _ => trivial,fun y hy => gnP.mono (gnP.hold ((uh G0).2.1.2.2 y (hmem y hy)) (Hold.below (uh BW))) (fun _ _ _ => trivial)⟩,((uh G0).2.2.1.hold (Hold.below (uh BW))).mono (fun _ _ _ => trivial),((uh G0).2.2.2.hold (Hold.below (uh BW))).mono (fun _ _ _ => trivial)⟩
    ⟨(uh HS).nv,Nat.le_trans hll (uh HS).nn,(uh HS).ni,(uh HS).no,(uh HS).vs,fun y hy => (uh HS).ns y (hmem y hy)⟩)
   unfold grV grCells at CC
   simp only at CC
   have R1:=hide ((uh R0).below (uh BW))
   have xp:=(uh HPX).cell
   clear hRc hRb hmem hll
   go_wp2_with fail
   refine (uh CC).mono ?_
   rintro e w7 ⟨a,rfl,had,hag,hb7⟩
   have AG:=hide hag
   have AD:=hide had
   have B7:=hide hb7
   have R7:=hide ((uh R1).below hb7)
   clear had hag hb7 CC xp
   go_wp2_with (refine wpList_isStore 32 rfl ?_; (refine wpList_storeG aggGr rfl _ _ rfl rfl rfl (uh R7) rfl rfl (gr_ones9 _ _ _ _ _ _ _ _ _ _ _ _) ?_; intro w9 b9 s9 z9; have G9:=hide b9; have S9:=hide s9; clear b9 s9 z9))
   refine bodyPost_ret (results_gr1 rfl rfl (uh G9) rfl) rfl ⟨a,rfl,?_,?_,?_⟩
   ·rw [uh AD,uh HPG]
    unfold GrA.d
    simp only [uh HKL,keep_map]
   ·refine grP.mono (grP.hold (uh AG) (Hold.stay (uh S9) (by have:=(uh BW).size; have:=uh HSZ; show ¬ wr.heap.size ≤ k1 + 1; omega))) (fun b hb _ => ?_)
    have h1:wr.heap.size ≤ b:=hb
    have h2:=(uh BW).size
    have h3:=uh HSZ
    have h4:=uh HK1
    show w.heap.size ≤ b
    omega
   ·exact bl_tr7 (bl_tr (uh B0) (bl_tr (uh BW) (uh B7))) (bl_mono7 (uh S9).1 (by have:=uh HK1; omega))
def okX (D:SeD):Prop:=∀ k,(D k).xs.length ≤ 1000000
def okLX (l:List (Nat × FV)):Prop:=∀ x ∈ l,x.2.xs.length ≤ 1000000
theorem updL_okX:∀ (l:List (Nat × FV)) (D:SeD),okX D → okLX l → okX (updL D l)
 | [],D,h,_ => h
 | x :: r,D,h,hl => by
   show okX (updL (updD D x.1 x.2) r)
   refine updL_okX r _ ?_ (fun y hy => hl y (List.mem_cons_of_mem _ hy))
   intro k
   unfold updD
   by_cases e:k = x.1
   ·rw [if_pos e]; exact hl x (List.mem_cons_self ..)
   ·rw [if_neg e]; exact h k
theorem okLX_one {k:Nat} {f:FV} (h:f.xs.length ≤ 1000000):okLX [(k,f)]:=fun x hx => by
 simp only [List.mem_singleton] at hx; subst hx; exact h
theorem okLX_two {k j:Nat} {f g:FV} (h:f.xs.length ≤ 1000000) (h2:g.xs.length ≤ 1000000):okLX [(k,f),(j,g)]:=fun x hx => by
 simp only [List.mem_cons,List.not_mem_nil,or_false] at hx
 rcases hx with rfl | rfl
 ·exact h
 ·exact h2
theorem wrL_okX (nm:Str) (n:Int):okLX (wrL nm n):=by
 unfold wrL
 by_cases h0:nm = [97,108,112,104,97]
 ·rw [if_pos h0]; exact okLX_one (Nat.zero_le _)
 rw [if_neg h0]
 by_cases h1:nm = [98,101,116,97]
 ·rw [if_pos h1]; exact okLX_one (Nat.zero_le _)
 rw [if_neg h1]
 by_cases h2:nm = [101,112,115,105,108,111,110]
 ·rw [if_pos h2]; exact okLX_one (Nat.zero_le _)
 rw [if_neg h2]
 by_cases h3:nm = [118,97,108,117,101,95,102,108,111,97,116]
 ·rw [if_pos h3]; exact okLX_one (Nat.zero_le _)
 rw [if_neg h3]
 by_cases h4:nm = [118,97,108,117,101,95,105,110,116]
 ·rw [if_pos h4]; exact okLX_one (Nat.zero_le _)
 rw [if_neg h4]
 by_cases h5:nm = [97,120,105,115]
 ·rw [if_pos h5]; exact okLX_one (Nat.zero_le _)
 rw [if_neg h5]
 by_cases h6:nm = [116,111]
 ·rw [if_pos h6]; exact okLX_one (Nat.zero_le _)
 rw [if_neg h6]
 by_cases h7:nm = [98,108,111,99,107,115,105,122,101]
 ·rw [if_pos h7]; exact okLX_one (Nat.zero_le _)
 rw [if_neg h7]
 by_cases h8:nm = [103,114,111,117,112]
 ·rw [if_pos h8]; exact okLX_one (Nat.zero_le _)
 rw [if_neg h8]
 by_cases h9:nm = [115,116,97,114,116]
 ·rw [if_pos h9]; exact okLX_one (Nat.zero_le _)
 rw [if_neg h9]
 by_cases h10:nm = [101,110,100]
 ·rw [if_pos h10]; exact okLX_two (Nat.zero_le _) (Nat.zero_le _)
 rw [if_neg h10]
 by_cases h11:nm = [109,111,100,101]
 ·rw [if_pos h11]; exact okLX_one (Nat.zero_le _)
 rw [if_neg h11]
 by_cases h12:nm = [114,101,100,117,99,116,105,111,110]
 ·rw [if_pos h12]; exact okLX_one (Nat.zero_le _)
 rw [if_neg h12]
 by_cases h13:nm = [97,117,116,111,95,112,97,100]
 ·rw [if_pos h13]; exact okLX_one (Nat.zero_le _)
 rw [if_neg h13]
 cases hk:flagK nm with
 | none => exact fun x hx => by cases hx
 | some k => exact okLX_one (Nat.zero_le _)
theorem wlL_okX (nm:Str) (xs:List Int) (h:xs.length ≤ 1000000):okLX (wlL nm xs):=by
 unfold wlL
 repeat' split
 all_goals first
  | exact okLX_one h
  | exact okLX_two h (Nat.zero_le _)
  | exact fun x hx => by cases hx
theorem takeV_okX {so:Int} {nm:Str} {kd f i:Int} {s:Str} {T:Ten} {fl is:List Int} (hi:is.length ≤ 1000000):∀ l,takeV so nm kd f i s T fl is = some l → okLX l:=by
 intro l h
 unfold takeV at h
 repeat' split at h
 all_goals first
  | (cases h; exact wrL_okX _ _)
  | (cases h; exact wlL_okX _ _ hi)
  | (cases h; exact okLX_one (Nat.zero_le _))
  | cases h
theorem zero_okX:okX zeroD:=by
 intro k
 unfold zeroD
 repeat' split
 all_goals exact Nat.zero_le _
theorem stand_okX (l:List AtD):okX (standD l):=by
 have key:∀ (l:List AtD) (D:SeD),okX D → okX (l.foldl standF D):=by
  intro l
  induction l with
  | nil => intro D h; exact h
  | cons a r ih =>
    intro D h
    refine ih _ ?_
    unfold standF
    split
    ·intro k
     unfold updD
     split
     ·exact Nat.zero_le _
     ·exact h k
    ·split
     ·exact h
     ·exact updL_okX _ _ h (wrL_okX _ _)
 exact key l _ zero_okX
theorem setting_okX {ats:List AtD} {l:List AttrD} (h:∀ a ∈ l,okA9 a) {D:SeD} (hs:settingV ats l = some D):okX D:=by
 have key:∀ (l:List AttrD),(∀ a ∈ l,okA9 a) → ∀ st:Option (SeD × List Bool),(∀ D sn,st = some (D,sn) → okX D) → ∀ D sn,l.foldl (stepS ats) st = some (D,sn) → okX D:=by
  intro l
  induction l with
  | nil => intro _ st h0 D sn e; exact h0 D sn e
  | cons a r ih =>
    intro ha st h0
    refine ih (fun x hx => ha x (List.mem_cons_of_mem _ hx)) _ ?_
    intro D sn e
    have h1:=ha a (List.mem_cons_self ..)
    cases st with
    | none => cases e
    | some p =>
      obtain ⟨D0,s0⟩:=p
      have h00:=h0 D0 s0 rfl
      unfold stepS at e
      simp only at e
      split at e
      ·cases e
      ·split at e
       ·cases e
       ·split at e
        ·cases e
        ·rename_i l' hl'
         simp only [Option.some.injEq,Prod.mk.injEq] at e
         rw [← e.1]
         exact updL_okX _ _ h00 (takeV_okX h1.2.2 _ hl')
 unfold settingV at hs
 cases e:foldS ats l with
 | none => rw [e] at hs; cases hs
 | some p =>
   obtain ⟨D1,sn⟩:=p
   rw [e] at hs
   simp only at hs
   have h1:okX D1:=key l h _ (fun D sn e => by simp only [Option.some.injEq,Prod.mk.injEq] at e; rw [← e.1]; exact stand_okX ats) D1 sn e
   split at hs
   ·cases hs
   ·split at hs
    ·simp only [Option.some.injEq] at hs; rw [← hs]; exact h1
    ·cases hs
theorem res_okX {n:NodeD} (h:∀ a ∈ n.2.2.2.2,okA9 a):okX (resV n).2.1:=by
 unfold resV
 split
 ·exact zero_okX
 ·split
  ·exact zero_okX
  ·split
   ·exact zero_okX
   ·rename_i D hD
    split
    ·exact zero_okX
    ·exact setting_okX h hD
theorem okSe_of {D:SeD} (h:okX D) (h2:okD9 D):okSe D:=by
 have:=h 1; have:=h 7; have:=h 20; have:=h 21; have:=h 22; have:=h 23
 exact ⟨⟨by omega,by omega,by omega,by omega,by omega,by omega⟩,h2⟩
theorem noTen_ok9:okLen noTen:=⟨by decide,by decide,by decide,by decide⟩
structure okGrD (g:GrD):Prop where
 nv:g.vals.length ≤ 274877906944
 nn:g.nodes.length ≤ 1024
 ni:g.inp.length ≤ 1024
 no:g.out.length ≤ 1024
 vs:∀ v ∈ g.vals,v.2.1.length * 8 ≤ 140737488355328 ∧ okLen v.2.2.2
 ns:∀ n ∈ g.nodes,okSe n.s ∧ n.ins.length ≤ 64 ∧ n.outs.length ≤ 64
theorem okGrD.gr {a:GrA} (h:okGrD a.d):okGr a:=by
 obtain ⟨h1,h2,h3,h4,h5,h6⟩:=h
 simp only [GrA.d,List.length_map] at h1 h2 h3 h4
 refine ⟨h1,by omega,by omega,by omega,fun v hv => h5 v.d (List.mem_map.2 ⟨v,hv,rfl⟩),fun n hn => ?_⟩
 have:=h6 n.d (List.mem_map.2 ⟨n,hn,rfl⟩)
 exact ⟨this.1,by have:=this.2.1; simp only [GnA.d] at this; omega,by have:=this.2.2; simp only [GnA.d] at this; omega⟩
theorem canon_len9 {T:Ten} (h:TenWr T):okLen (canonT T):=by
 obtain ⟨h1,h2,h3,h4⟩:=h
 refine ⟨?_,?_,?_,?_⟩
 ·show T.2.1.length * 8 ≤ _; omega
 ·show (T.2.2.1.map _).length * 4 ≤ _; rw [List.length_map]; omega
 ·show T.2.2.2.1.length * 8 ≤ _; omega
 ·show T.2.2.2.2.length ≤ _; omega
theorem canon_ok9 {T:Ten} (h:okLen T):okLen (canonT T):=by
 obtain ⟨h1,h2,h3,h4⟩:=h
 exact ⟨h1,by show (T.2.2.1.map _).length * 4 ≤ _; rw [List.length_map]; exact h2,h3,h4⟩
theorem row_mem {m:ModelD} {L:List Str} (hL:outsG (headG m) m.2.2.1 = some L):∀ x,(x ∈ (rowG m L).1 ∨ x ∈ (rowG m L).2) → ∃ i n,m.2.2.1[i]? = some n ∧ x = linkG L i n ∧ (resV n).1 ≠ 61:=by
 intro x hx
 obtain ⟨r1,_⟩:=restG_in hL
 obtain ⟨dl',hk,_⟩:=kahn_keeps (givenG (valsG m) (inpG m)) (restG (nodesG L (baseG m) 0 m.2.2.1)) r1
 have hm:x ∈ restG (nodesG L (baseG m) 0 m.2.2.1):=hk.perm.subset (by
  rw [List.mem_append]
  exact hx)
 rw [← links_all hL] at hm
 exact (rest_at _ _ _).1 hm
theorem build_fit {x:MoA}:okGrD (buildV x.d).1:=by
 by_cases c:(buildV x.d).2.1 = 0
 ·obtain ⟨h0,h1,L,hL,h2,h3⟩:=build_no c
  have hb:=build_ok L h0 h1 hL h2 h3
  have hs:=sm9_of h0
  have hsv:=sm9v_of h0
  have hnl:=names_len hs hL
  rw [hb] at c ⊢
  cases e:(rowG x.d L).2 with
  | cons a r => rw [e] at c; cases c
  | nil =>
    obtain ⟨s0,s1,s2,s3,s4,s5⟩:=hs
    have hd1:x.d.2.2.1 = x.nodes.map NoA.d:=rfl
    have hres:∀ n ∈ x.d.2.2.1,okSe (resV n).2.1:=fun n hn => by
     obtain ⟨n',hn',rfl⟩:=List.mem_map.1 (show n ∈ x.nodes.map NoA.d from hn)
     have ha:∀ a ∈ n'.d.2.2.2.2,okA9 a:=fun a ha => by
      obtain ⟨a',ha',rfl⟩:=List.mem_map.1 (show a ∈ n'.at'.map AtA.d from ha)
      exact atSm_ok9 ((s0.2.1 n' hn').2.2.2.2.2 a' ha').1
     exact okSe_of (res_okX ha) (res_ok9 ha)
    refine ⟨?_,?_,?_,?_,?_,?_⟩
    ·show (valsG x.d).length ≤ _
     rw [vals_len hL]; omega
    ·show (rowG x.d L).1.length ≤ 1024
     have hb2:=(build_lens (m:=x.d) (by rw [hb,e])).1
     rw [hb,e] at hb2
     simp only at hb2
     rw [hb2]
     have:=List.length_filter_le (fun n:NodeD => decide ((resV n).1 ≠ 61)) x.d.2.2.1
     rw [hd1,List.length_map] at this
     rw [hd1]; omega
    ·show (inpG x.d).length ≤ 1024
     unfold inpG rangeG
     rw [List.length_map,List.length_range]
     have:x.d.2.2.2.2.1.length = x.inp.length:=List.length_map _
     omega
    ·show (x.d.2.2.2.2.2.map _).length ≤ 1024
     rw [List.length_map]
     have:x.d.2.2.2.2.2.length = x.out.length:=List.length_map _
     omega
    ·show ∀ v ∈ valsG x.d,_
     intro v hv
     unfold valsG at hv
     rw [List.mem_append,List.mem_append] at hv
     rcases hv with (hv | hv) | hv
     ·obtain ⟨c,hc,rfl⟩:=List.mem_map.1 hv
      obtain ⟨c',hc',rfl⟩:=List.mem_map.1 (show c ∈ x.inits.map InA.d from hc)
      have ht:=(s0.2.2.1 c' hc').2
      refine ⟨?_,canon_len9 ht⟩
      show c'.T.2.1.length * 8 ≤ _
      have:=ht.1; omega
     ·obtain ⟨c,hc,rfl⟩:=List.mem_map.1 hv
      obtain ⟨c',hc',rfl⟩:=List.mem_map.1 (show c ∈ x.inp.map VaA.d from hc)
      refine ⟨?_,noTen_ok9⟩
      show c'.ds.length * 8 ≤ _
      have:=hsv c' hc'; omega
     ·obtain ⟨n,hn,hv⟩:=List.mem_flatMap.1 hv
      unfold putG at hv
      obtain ⟨t,_,rfl⟩:=List.mem_map.1 hv
      have hk:=(hres n hn).2
      by_cases q:(resV n).1 = 61
      ·rw [if_pos q]
       exact ⟨hk.1,canon_ok9 hk⟩
      ·rw [if_neg q]
       exact ⟨by decide,noTen_ok9⟩
    ·show ∀ n ∈ (rowG x.d L).1,_
     intro d hd
     obtain ⟨i,n,hi,rfl,_⟩:=row_mem hL d (.inl hd)
     have hn:=List.mem_of_getElem? hi
     obtain ⟨n',hn',rfl⟩:=List.mem_map.1 (show n ∈ x.nodes.map NoA.d from hn)
     refine ⟨hres _ hn,?_,?_⟩
     ·show (n'.ins.map (findG L)).length ≤ 64
      rw [List.length_map]; exact (s5 n' hn').1
     ·show (n'.outs.map (findG L)).length ≤ 64
      rw [List.length_map]; exact (s5 n' hn').2
 ·rw [build_bad c]
  exact ⟨by decide,by decide,by decide,by decide,(fun v hv => by cases hv),(fun v hv => by cases hv)⟩
theorem sum_le_of9 {α:Type} (f:α → Nat) (l:List α) (k:Nat) (h:∀ x ∈ l,f x ≤ k):(l.map f).sum ≤ l.length * k:=by
 have:=sum_le9 (l.map f) k (fun x hx => by obtain ⟨y,hy,rfl⟩:=List.mem_map.1 hx; exact h y hy)
 rw [List.length_map] at this; exact this
theorem okGrD.sums {a:GrA} (h:okGrD a.d):a.out.length + (a.nodes.map fun n => n.ins.length).sum ≤ 4611686018427387904 ∧ a.inp.length + (a.nodes.map fun n => n.outs.length).sum ≤ 4611686018427387904 ∧ a.vals.length ≤ 1099511627776:=by
 obtain ⟨h1,h2,h3,h4,h5,h6⟩:=h
 simp only [GrA.d,List.length_map] at h1 h2 h3 h4
 have e1:=sum_le_of9 (fun n:GnA => n.ins.length) a.nodes 64 (fun n hn => (h6 n.d (List.mem_map.2 ⟨n,hn,rfl⟩)).2.1)
 have e2:=sum_le_of9 (fun n:GnA => n.outs.length) a.nodes 64 (fun n hn => (h6 n.d (List.mem_map.2 ⟨n,hn,rfl⟩)).2.2)
 omega
theorem run_snoc:∀ (l:List GnD) (dl:List Bool) {e:List Bool} {x:GnD},runG dl l = some e → readyG e x.ins = true → runG dl (l ++ [x]) = some (defG e x.outs)
 | [],dl,e,x,h,hx => by
   cases h
   show (if readyG dl x.ins = true then runG (defG dl x.outs) [] else none) = _
   rw [if_pos hx]; rfl
 | n :: r,dl,e,x,h,hx => by
   have h':(if readyG dl n.ins = true then runG (defG dl n.outs) r else none) = some e:=h
   show (if readyG dl n.ins = true then runG (defG dl n.outs) (r ++ [x]) else none) = _
   by_cases q:readyG dl n.ins = true
   ·rw [if_pos q] at h' ⊢; exact run_snoc r _ h' hx
   ·rw [if_neg q] at h'; cases h'
theorem kahn_runs (dl:List Bool) (l:List GnD) (hr:∀ x ∈ l,∀ v ∈ x.outs,0 ≤ v ∧ v < (dl.length:Int)):∃ dl',KInv dl l dl' (kahnG l.length dl [] l).1 (kahnG l.length dl [] l).2 ∧ runG dl (kahnG l.length dl [] l).1 = some dl':=by
 obtain ⟨dl',h,_⟩:=kahn_ind (fun dl' row rem => KInv dl l dl' row rem ∧ runG dl row = some dl') (fun d row rem x l' h e => ⟨h.1.step hr e,run_snoc row dl h.2 (pick_some9 rem d e).1⟩) l.length dl [] l (Nat.le_refl _) ⟨⟨.refl _,rfl,fun v => by simp⟩,rfl⟩
 exact ⟨dl',h⟩
theorem bump_get:∀ (vs:List Int) (l:List Int) (v:Nat),(∀ u ∈ vs,0 ≤ u ∧ u < (l.length:Int)) → v < l.length → (bumpG l vs).getD v 0 = l.getD v 0 + (vs.count (v:Int):Nat)
 | [],l,v,_,_ => by simp [bumpG]
 | a :: r,l,v,h,hv => by
   obtain ⟨a0,a1⟩:=h a List.mem_cons_self
   have e:bumpG l (a :: r) = bumpG (bump1 l a) r:=rfl
   have hl:(bump1 l a).length = l.length:=by unfold bump1; rw [List.length_set]
   rw [e,bump_get r (bump1 l a) v (fun u hu => by rw [hl]; exact h u (List.mem_cons_of_mem _ hu)) (by rw [hl]; exact hv),List.count_cons]
   have hx:(bump1 l a).getD v 0 = l.getD v 0 + (if a = (v:Int) then 1 else 0):=by
    unfold bump1
    rw [List.getD_eq_getElem?_getD,List.getElem?_set]
    by_cases q:a.toNat = v
    ·have q2:a = (v:Int):=by omega
     rw [if_pos q,if_pos (by omega),if_pos q2]
     simp only [Option.getD_some]
     rw [q]
    ·rw [if_neg q,if_neg (by omega),← List.getD_eq_getElem?_getD]
     omega
   rw [hx]
   by_cases q:a = (v:Int)
   ·rw [if_pos q]; simp [q]; omega
   ·rw [if_neg q]; simp [q]
theorem bumps_get:∀ (ns:List GnD) (l:List Int) (v:Nat),(∀ n ∈ ns,∀ u ∈ n.outs,0 ≤ u ∧ u < (l.length:Int)) → v < l.length → (bumpsG l ns).getD v 0 = l.getD v 0 + ((ns.map fun n => n.outs.count (v:Int)).sum:Nat)
 | [],l,v,_,_ => by simp [bumpsG]
 | n :: r,l,v,h,hv => by
   have e:bumpsG l (n :: r) = bumpsG (bumpG l n.outs) r:=rfl
   have hl:=bump_len n.outs l
   rw [e,bumps_get r (bumpG l n.outs) v (fun x hx u hu => by rw [hl]; exact h x (List.mem_cons_of_mem _ hx) u hu) (by rw [hl]; exact hv),bump_get n.outs l v (h n List.mem_cons_self) hv]
   simp only [List.map_cons,List.sum_cons]
   omega
def defsG (g:GrD) (v:Nat):Nat:=(if (g.vals.getD v emptyG).2.2.1 = true then 1 else 0) + g.inp.count (v:Int) + (g.nodes.map fun n => n.outs.count (v:Int)).sum
theorem places_of {g:GrD}:placesG g = true ↔ ((∀ v ∈ g.inp,inV g.vals.length v = true) ∧ (∀ v ∈ g.out,inV g.vals.length v = true)) ∧ ∀ n ∈ g.nodes,(∀ v ∈ n.ins,v = -1 ∨ inV g.vals.length v = true) ∧ ∀ v ∈ n.outs,inV g.vals.length v = true:=by
 unfold placesG
 simp only [Bool.and_eq_true,Bool.not_eq_true',Bool.or_eq_false_iff,List.any_eq_false,Bool.not_eq_true,Bool.not_eq_false']
 refine and_congr (and_congr ⟨fun h v hv => by simpa using h v hv,fun h v hv => by simpa using h v hv⟩ ⟨fun h v hv => by simpa using h v hv,fun h v hv => by simpa using h v hv⟩) ⟨fun h n hn => ?_,fun h n hn => ?_⟩
 ·have:=h n hn
  unfold badN at this
  simp only [Bool.or_eq_false_iff,List.any_eq_false,Bool.not_eq_true,Bool.not_eq_false',Bool.and_eq_false_imp,decide_eq_true_eq] at this
  refine ⟨fun v hv => ?_,fun v hv => by simpa using this.2 v hv⟩
  by_cases q:v = -1
  ·exact .inl q
  ·exact .inr (by simpa using this.1 v hv q)
 ·obtain ⟨h1,h2⟩:=h n hn
  unfold badN
  simp only [Bool.or_eq_false_iff,List.any_eq_false,Bool.not_eq_true,Bool.not_eq_false',Bool.and_eq_false_imp,decide_eq_true_eq]
  refine ⟨fun v hv q => ?_,fun v hv => by simpa using h2 v hv⟩
  rcases h1 v hv with e | e
  ·exact absurd e q
  ·simpa using e
theorem inV_iff {n:Nat} {v:Int}:inV n v = true ↔ 0 ≤ v ∧ v < (n:Int):=by unfold inV; simp
theorem twice_iff {g:GrD} (hp:placesG g = true):twiceG g = false ↔ ∀ v,v < g.vals.length → defsG g v ≤ 1:=by
 obtain ⟨⟨h1,h2⟩,h3⟩:=places_of.1 hp
 have hl0:(g.vals.map fun v:ValG => if v.2.2.1 = true then (1:Int) else 0).length = g.vals.length:=List.length_map _
 have hl1:=bump_len g.inp (g.vals.map fun v:ValG => if v.2.2.1 = true then (1:Int) else 0)
 have hl2:(timesG g).length = g.vals.length:=by unfold timesG; rw [bumps_len,hl1,hl0]
 have key:∀ v,v < g.vals.length → (timesG g).getD v 0 = (defsG g v:Nat):=by
  intro v hv
  unfold timesG
  rw [bumps_get g.nodes _ v (fun n hn u hu => by rw [hl1,hl0]; exact inV_iff.1 ((h3 n hn).2 u hu)) (by rw [hl1,hl0]; exact hv),bump_get g.inp _ v (fun u hu => by rw [hl0]; exact inV_iff.1 (h1 u hu)) (by rw [hl0]; exact hv)]
  have e0:(g.vals.map fun v:ValG => if v.2.2.1 = true then (1:Int) else 0).getD v 0 = ((if (g.vals.getD v emptyG).2.2.1 = true then 1 else 0:Nat):Int):=by
   rw [List.getD_eq_getElem?_getD,List.getElem?_map,List.getD_eq_getElem?_getD,List.getElem?_eq_getElem hv]
   simp only [Option.map_some,Option.getD_some]
   split <;> rfl
  rw [e0]
  unfold defsG
  omega
 unfold twiceG
 rw [List.any_eq_false]
 constructor
 ·intro h v hv
  have:=h _ (getD_mem9 (z:=(0:Int)) (by rw [hl2]; exact hv))
  rw [key v hv] at this
  simp only [decide_eq_true_eq] at this
  omega
 ·intro h x hx
  obtain ⟨v,hv,e⟩:=List.mem_iff_getElem.1 hx
  have hv':v < g.vals.length:=by rw [← hl2]; exact hv
  have:=key v hv'
  rw [List.getD_eq_getElem?_getD,List.getElem?_eq_getElem hv] at this
  simp only [Option.getD_some] at this
  rw [e] at this
  have:=h v hv'
  simp only [decide_eq_true_eq]
  omega
theorem findG_self {L:List Str} (hd:L.Nodup) {v:Nat} (hv:v < L.length):findG L L[v] = (v:Int):=by
 obtain ⟨n,e,h1,h2⟩:=findG_lt (findG_mem (List.getElem_mem hv))
 rw [List.getD_eq_getElem?_getD,List.getElem?_eq_getElem h1] at h2
 simp only [Option.getD_some] at h2
 have hnv:n = v:=by
  rcases Nat.lt_trichotomy n v with g | g | g
  ·exact absurd h2 (List.pairwise_iff_getElem.1 hd n v h1 hv g)
  ·exact g
  ·exact absurd h2.symm (List.pairwise_iff_getElem.1 hd v n hv h1 g)
 rw [e,hnv]
theorem count_find {L:List Str} {s:Str} (hs:0 ≤ findG L s):∀ (l:List Str),(l.map (findG L)).count (findG L s) = l.count s
 | [] => rfl
 | t :: r => by
   rw [List.map_cons,List.count_cons,List.count_cons,count_find hs r]
   congr 1
   by_cases q:t = s
   ·subst q; simp
   ·have:¬ findG L t = findG L s:=fun e => q (findG_inj hs e.symm).symm
    simp [q,this]
theorem count_flat9 {α:Type} (f:α → List Str) (s:Str):∀ (l:List α),(l.flatMap f).count s = (l.map fun n => (f n).count s).sum
 | [] => rfl
 | n :: r => by rw [List.flatMap_cons,List.count_append,count_flat9 f s r]; rfl
theorem rest_sum {L:List Str} {s:Str} (hs:0 ≤ findG L s):∀ (l:List NodeD) (k:Nat),((restG (linksG L k l)).map fun n => n.outs.count (findG L s)).sum = ((l.filter fun n => decide ((resV n).1 ≠ 61)).map fun n => n.2.2.2.1.count s).sum
 | [],k => rfl
 | n :: r,k => by
   have ih:=rest_sum hs r (k + 1)
   unfold restG at ih ⊢
   show (((linkG L k n :: linksG L (k + 1) r).filter _).map _).sum = _
   by_cases c:(resV n).1 = 61
   ·rw [List.filter_cons_of_neg (by simp [linkG,c]),List.filter_cons_of_neg (by simp [c])]
    exact ih
   ·rw [List.filter_cons_of_pos (by simp [linkG,c]),List.filter_cons_of_pos (by simp [c]),List.map_cons,List.sum_cons,List.map_cons,List.sum_cons,ih]
    congr 1
    exact count_find hs _
theorem filter_sum9 {α:Type} (p:α → Bool) (f:α → Nat):∀ (l:List α),((l.filter p).map f).sum ≤ (l.map f).sum
 | [] => Nat.le_refl _
 | n :: r => by
   have ih:=filter_sum9 p f r
   rw [List.map_cons,List.sum_cons]
   by_cases c:p n = true
   ·rw [List.filter_cons_of_pos c,List.map_cons,List.sum_cons]; omega
   ·rw [List.filter_cons_of_neg c]; omega
theorem range_nodup (a:Int) (n:Nat):(rangeG a n).Nodup:=by
 unfold rangeG
 show List.Pairwise (· ≠ ·) _
 rw [List.pairwise_map]
 have h:List.Pairwise (fun x y:Nat => x ≠ y) (List.range n):=List.nodup_range
 refine h.imp ?_
 intro x y hxy e
 have e':a + (x:Int) = a + (y:Int):=e
 omega
theorem check_iff {g:GrD}:checkG g = 0 ↔ placesG g = true ∧ twiceG g = false ∧ looseG g = false:=by
 unfold checkG
 cases placesG g <;> cases twiceG g <;> cases looseG g <;> simp
theorem built_of {m:ModelD} (h:(buildV m).2.1 = 0):∃ L,outsG (headG m) m.2.2.1 = some L ∧ (∀ n ∈ m.2.2.1,(resV n).2.2 = 0) ∧ (∀ v ∈ m.2.2.2.2.2,v.1 ∈ L) ∧ (rowG m L).2 = [] ∧ (buildV m).1 = ⟨valsG m,(rowG m L).1,inpG m,m.2.2.2.2.2.map fun v => findG L v.1⟩:=by
 obtain ⟨h0,h1,L,hL,h2,h3⟩:=build_no h
 have hb:=build_ok L h0 h1 hL h2 h3
 refine ⟨L,hL,h1,h3,?_,?_⟩
 ·rw [hb] at h
  cases e:(rowG m L).2 with
  | nil => rfl
  | cons a r => rw [e] at h; cases h
 ·rw [hb] at h ⊢
  cases e:(rowG m L).2 with
  | nil => rfl
  | cons a r => rw [e] at h; cases h
theorem build_sound {m:ModelD} (h:(buildV m).2.1 = 0):checkG (buildV m).1 = 0:=by
 obtain ⟨L,hL,hres,hout,hrem,hg⟩:=built_of h
 rw [hg,check_iff]
 obtain ⟨r1,r2⟩:=restG_in hL
 obtain ⟨dl',hk,hrun⟩:=kahn_runs (givenG (valsG m) (inpG m)) (restG (nodesG L (baseG m) 0 m.2.2.1)) r1
 have e2:(kahnG (restG (nodesG L (baseG m) 0 m.2.2.1)).length (givenG (valsG m) (inpG m)) [] (restG (nodesG L (baseG m) 0 m.2.2.1))).2 = []:=hrem
 have hp:=hk.perm
 rw [e2,List.append_nil] at hp
 have hp':(rowG m L).1.Perm (restG (linksG L 0 m.2.2.1)):=by rw [links_all hL]; exact hp
 have hlen:=vals_len hL
 have hnd:=names_nodup hL
 rw [given_len9] at r1 r2
 have hpl:placesG ⟨valsG m,(rowG m L).1,inpG m,m.2.2.2.2.2.map fun v => findG L v.1⟩ = true:=by
  rw [places_of]
  refine ⟨⟨fun v hv => inV_iff.2 (inp_in m v hv),fun v hv => ?_⟩,fun n hn => ⟨fun v hv => ?_,fun v hv => ?_⟩⟩
  ·obtain ⟨o,ho,rfl⟩:=List.mem_map.1 hv
   have h0:=findG_mem (hout o ho)
   obtain ⟨k,e,hk2,_⟩:=findG_lt h0
   refine inV_iff.2 ⟨h0,?_⟩
   show _ < ((valsG m).length:Int)
   rw [hlen]; omega
  ·rcases r2 n (hp.subset hn) v hv with e | e
   ·exact .inl e
   ·exact .inr (inV_iff.2 e)
  ·exact inV_iff.2 (r1 n (hp.subset hn) v hv)
 refine ⟨hpl,(twice_iff hpl).2 (fun v hv => ?_),?_⟩
 ·simp only at hv
  rw [hlen] at hv
  have hs0:0 ≤ findG L L[v]:=findG_mem (List.getElem_mem hv)
  have hse:=findG_self hnd hv
  obtain ⟨s,hs⟩:∃ s,L[v] = s:=⟨_,rfl⟩
  rw [hs] at hs0 hse
  have hgn:=given_names hL s hs0
  rw [hse,Int.toNat_natCast] at hgn
  have hgg:=given_get (m:=m) v
  obtain ⟨L0,e0,e1⟩:=all_names hL
  have e3:=head_some e0
  have hnd2:=hnd
  rw [e1,e3,List.append_assoc,List.nodup_append,List.nodup_append] at hnd2
  obtain ⟨n1,⟨n2,n3,n4⟩,n5⟩:=hnd2
  have hsum:((rowG m L).1.map fun n => n.outs.count (v:Int)).sum = ((m.2.2.1.filter fun n => decide ((resV n).1 ≠ 61)).map fun n => n.2.2.2.1.count s).sum:=by
   rw [(hp'.map fun n:GnD => n.outs.count (v:Int)).sum_nat,← hse]
   exact rest_sum hs0 m.2.2.1 0
  have hle:((m.2.2.1.filter fun n => decide ((resV n).1 ≠ 61)).map fun n => n.2.2.2.1.count s).sum ≤ 1:=by
   refine Nat.le_trans (filter_sum9 _ _ _) ?_
   rw [← count_flat9 (fun n:NodeD => n.2.2.2.1) s m.2.2.1]
   exact List.nodup_iff_count.1 n3 s
  have hcon:(if ((valsG m).getD v emptyG).2.2.1 = true then 1 else 0) + (inpG m).count (v:Int) ≤ 1:=by
   have hc1:(inpG m).count (v:Int) ≤ 1:=List.nodup_iff_count.1 (range_nodup _ _) _
   by_cases q:(v:Int) ∈ inpG m
   ·have hc0:((valsG m).getD v emptyG).2.2.1 = false:=by
     obtain ⟨g1,g2⟩:=(inp_mem m v).1 q
     unfold valsG
     rw [List.getD_eq_getElem?_getD,List.append_assoc,List.getElem?_append_right (by rw [List.length_map]; exact g1),List.length_map,List.getElem?_append_left (by rw [List.length_map]; omega),List.getElem?_map,List.getElem?_eq_getElem (by omega)]
     rfl
    rw [hc0]; simp; exact hc1
   ·rw [List.count_eq_zero.2 q]
    split <;> omega
  show (if ((valsG m).getD v emptyG).2.2.1 = true then 1 else 0) + (inpG m).count (v:Int) + ((rowG m L).1.map fun n => n.outs.count (v:Int)).sum ≤ 1
  rw [hsum]
  rcases Nat.eq_zero_or_pos ((m.2.2.1.filter fun n => decide ((resV n).1 ≠ 61)).map fun n => n.2.2.2.1.count s).sum with q | q
  ·rw [q]; omega
  ·have hex:∃ n ∈ m.2.2.1,(resV n).1 ≠ 61 ∧ s ∈ n.2.2.2.1:=by
    by_cases q2:∃ n ∈ m.2.2.1,(resV n).1 ≠ 61 ∧ s ∈ n.2.2.2.1
    ·exact q2
    ·exfalso
     have:((m.2.2.1.filter fun n => decide ((resV n).1 ≠ 61)).map fun n => n.2.2.2.1.count s).sum = 0:=by
      have hz:=sum_le9 ((m.2.2.1.filter fun n => decide ((resV n).1 ≠ 61)).map fun n => n.2.2.2.1.count s) 0 (fun x hx => by
       obtain ⟨n,hn,rfl⟩:=List.mem_map.1 hx
       obtain ⟨hn1,hn2⟩:=List.mem_filter.1 hn
       exact Nat.le_of_eq (List.count_eq_zero.2 (fun hsn => q2 ⟨n,hn1,by simpa using hn2,hsn⟩)))
      omega
     omega
   obtain ⟨n,hn,hop,hsn⟩:=hex
   have hsC:s ∈ m.2.2.1.flatMap fun n => n.2.2.2.1:=List.mem_flatMap.2 ⟨n,hn,hsn⟩
   have hng:¬ GiveN m s:=by
    rintro (k | k | ⟨n',hn',ho',hs'⟩)
    ·exact n5 s k s (List.mem_append.2 (.inr hsC)) rfl
    ·exact n4 s k s hsC rfl
    ·have:=flat_one9 (fun n:NodeD => n.2.2.2.1) m.2.2.1 n3 n hn n' hn' s hsn hs'
     subst this
     exact hop ho'
   have hdl:¬ ((∃ y,(valsG m)[v]? = some y ∧ y.2.2.1 = true) ∨ (v:Int) ∈ inpG m):=fun e => hng (hgn.1 (hgg.2 e))
   have hc0:((valsG m).getD v emptyG).2.2.1 = false:=by
    by_cases q3:((valsG m).getD v emptyG).2.2.1 = true
    ·exfalso
     refine hdl (.inl ⟨(valsG m).getD v emptyG,?_,q3⟩)
     rw [List.getD_eq_getElem?_getD,List.getElem?_eq_getElem (by rw [hlen]; exact hv)]
     rfl
    ·simpa using q3
   have hc1:(inpG m).count (v:Int) = 0:=List.count_eq_zero.2 (fun e => hdl (.inr e))
   rw [hc0,hc1,if_neg (by decide)]
   omega
 ·have hrun':runG (givenG (valsG m) (inpG m)) (rowG m L).1 = some dl':=hrun
  unfold looseG
  simp only
  rw [hrun']
  simp only
  rw [List.any_eq_false]
  intro v hv
  obtain ⟨o,ho,rfl⟩:=List.mem_map.1 hv
  have hsL:=hout o ho
  have h0:=findG_mem hsL
  obtain ⟨k,e,_,_⟩:=findG_lt h0
  have hdef:dl'.getD k false = true:=by
   rw [hk.is k]
   by_cases q:GiveN m o.1
   ·left
    have:=(given_names hL o.1 h0).2 q
    rw [e,Int.toNat_natCast] at this
    exact this
   ·right
    obtain ⟨L0,e0,e1⟩:=all_names hL
    rw [e1,head_some e0,List.mem_append,List.mem_append] at hsL
    rcases hsL with (g | g) | g
    ·exact absurd (Or.inl g) q
    ·exact absurd (Or.inr (Or.inl g)) q
    ·obtain ⟨n,hn,hsn⟩:=List.mem_flatMap.1 g
     have hop:(resV n).1 ≠ 61:=fun e => q (.inr (.inr ⟨n,hn,e,hsn⟩))
     obtain ⟨i,hi,hin⟩:=List.mem_iff_getElem.1 hn
     refine ⟨linkG L i n,?_,?_⟩
     ·exact hp'.symm.subset ((rest_at _ _ _).2 ⟨i,n,by rw [List.getElem?_eq_getElem hi,hin],rfl,hop⟩)
     ·rw [← e]
      exact List.mem_map.2 ⟨o.1,hsn,rfl⟩
  rw [e,Int.toNat_natCast,hdef]
  decide
theorem live_keep (out:List Int):∀ (l:List GnD),(liveP out (keepL (liveP out l).1 l)).2 = (liveP out l).2 ∧ ∀ b ∈ (liveP out (keepL (liveP out l).1 l)).1,b = true
 | [] => ⟨rfl,fun b hb => by cases hb⟩
 | n :: r => by
   obtain ⟨h1,h2⟩:=live_keep out r
   by_cases q:(n.outs.any fun x => decide (x ∈ (liveP out r).2)) = true
   ·have e:liveP out (n :: r) = (true :: (liveP out r).1,(liveP out r).2 ++ n.ins):=by
     show (if _ then _ else _) = _
     rw [if_pos q]
    rw [e]
    have e2:keepL (true :: (liveP out r).1) (n :: r) = n :: keepL (liveP out r).1 r:=rfl
    simp only
    rw [e2]
    have e3:liveP out (n :: keepL (liveP out r).1 r) = (true :: (liveP out (keepL (liveP out r).1 r)).1,(liveP out (keepL (liveP out r).1 r)).2 ++ n.ins):=by
     show (if _ then _ else _) = _
     rw [if_pos (by rw [h1]; exact q)]
    rw [e3,h1]
    refine ⟨rfl,fun b hb => ?_⟩
    rcases List.mem_cons.1 hb with g | g
    ·exact g
    ·exact h2 b g
   ·have e:liveP out (n :: r) = (false :: (liveP out r).1,(liveP out r).2):=by
     show (if _ then _ else _) = _
     rw [if_neg q]
    rw [e]
    exact ⟨h1,h2⟩
theorem prune_live (g:GrD):(liveG (pruneG g)).length = (pruneG g).nodes.length ∧ ∀ b ∈ liveG (pruneG g),b = true:=⟨live_len _ _,(live_keep g.out g.nodes).2⟩
theorem keep_sum9 {α:Type} (f:α → Nat):∀ (bs:List Bool) (l:List α),((keepL bs l).map f).sum ≤ (l.map f).sum
 | [],l => by cases l <;> simp [keepL]
 | b :: bs,[] => by simp [keepL]
 | b :: bs,x :: xs => by
   have ih:=keep_sum9 f bs xs
   rw [List.map_cons,List.sum_cons]
   cases b
   ·show ((keepL bs xs).map f).sum ≤ _; omega
   ·show ((x :: keepL bs xs).map f).sum ≤ _
    rw [List.map_cons,List.sum_cons]; omega
theorem prune_run (out:List Int):∀ (l:List GnD) (dl dl' e:List Bool),dl.length = dl'.length → (∀ n ∈ l,∀ u ∈ n.outs,0 ≤ u ∧ u < (dl.length:Int)) → (∀ v:Int,0 ≤ v → v ∈ (liveP out l).2 → dl.getD v.toNat false = true → dl'.getD v.toNat false = true) → (∀ v ∈ (liveP out l).2,v = -1 ∨ 0 ≤ v) → runG dl l = some e → (∀ v ∈ out,0 ≤ v ∧ e.getD v.toNat false = true) →
  ∃ e',runG dl' (keepL (liveP out l).1 l) = some e' ∧ ∀ v ∈ out,e'.getD v.toNat false = true
 | [],dl,dl',e,hl,hr,hs,hv,h,ho => by
   cases h
   exact ⟨dl',rfl,fun v hv => hs v (ho v hv).1 hv (ho v hv).2⟩
 | n :: r,dl,dl',e,hl,hr,hs,hv,h,ho => by
   have h':(if readyG dl n.ins = true then runG (defG dl n.outs) r else none) = some e:=h
   by_cases q0:readyG dl n.ins = true
   ·rw [if_pos q0] at h'
    have hro:=hr n List.mem_cons_self
    have hro':∀ u ∈ n.outs,0 ≤ u ∧ u < (dl'.length:Int):=fun u hu => by rw [← hl]; exact hro u hu
    have hrr:∀ x ∈ r,∀ u ∈ x.outs,0 ≤ u ∧ u < ((defG dl n.outs).length:Int):=fun x hx u hu => by rw [defG_len]; exact hr x (List.mem_cons_of_mem _ hx) u hu
    by_cases q:(n.outs.any fun x => decide (x ∈ (liveP out r).2)) = true
    ·have e1:liveP out (n :: r) = (true :: (liveP out r).1,(liveP out r).2 ++ n.ins):=by
      show (if _ then _ else _) = _
      rw [if_pos q]
     rw [e1] at hs hv ⊢
     simp only at hs hv
     have hready:readyG dl' n.ins = true:=by
      rw [ready_iff] at q0 ⊢
      intro v hvi
      rcases q0 v hvi with k | k
      ·exact .inl k
      ·rcases hv v (List.mem_append.2 (.inr hvi)) with k2 | k2
       ·exact .inl k2
       ·exact .inr (hs v k2 (List.mem_append.2 (.inr hvi)) k)
     obtain ⟨e',g1,g2⟩:=prune_run out r (defG dl n.outs) (defG dl' n.outs) e (by rw [defG_len,defG_len]; exact hl) hrr (fun v hv0 hvs hd => by
      rw [defG_get n.outs dl v.toNat hro] at hd
      rw [defG_get n.outs dl' v.toNat hro']
      rcases hd with k | k
      ·exact .inl (hs v hv0 (List.mem_append.2 (.inl hvs)) k)
      ·exact .inr k) (fun v hvs => hv v (List.mem_append.2 (.inl hvs))) h' ho
     refine ⟨e',?_,g2⟩
     show (if readyG dl' n.ins = true then runG (defG dl' n.outs) (keepL (liveP out r).1 r) else none) = _
     rw [if_pos hready]; exact g1
    ·have e1:liveP out (n :: r) = (false :: (liveP out r).1,(liveP out r).2):=by
      show (if _ then _ else _) = _
      rw [if_neg q]
     rw [e1] at hs hv ⊢
     simp only at hs hv
     obtain ⟨e',g1,g2⟩:=prune_run out r (defG dl n.outs) dl' e (by rw [defG_len]; exact hl) hrr (fun v hv0 hvs hd => by
      rw [defG_get n.outs dl v.toNat hro] at hd
      rcases hd with k | k
      ·exact hs v hv0 hvs k
      ·exfalso
       rw [show ((v.toNat:Nat):Int) = v by omega] at k
       exact q (List.any_eq_true.2 ⟨v,k,by simpa using hvs⟩)) hv h' ho
     exact ⟨e',g1,g2⟩
   ·rw [if_neg q0] at h'; cases h'
theorem live_in (out:List Int):∀ (l:List GnD),∀ v ∈ (liveP out l).2,v ∈ out ∨ ∃ n ∈ l,v ∈ n.ins
 | [],v,h => .inl h
 | n :: r,v,h => by
   have h':v ∈ (if (n.outs.any fun x => decide (x ∈ (liveP out r).2)) = true then ((true :: (liveP out r).1,(liveP out r).2 ++ n.ins):List Bool × List Int) else (false :: (liveP out r).1,(liveP out r).2)).2:=h
   have key:v ∈ (liveP out r).2 ∨ v ∈ n.ins:=by
    by_cases q:(n.outs.any fun x => decide (x ∈ (liveP out r).2)) = true
    ·rw [if_pos q] at h'; exact List.mem_append.1 h'
    ·rw [if_neg q] at h'; exact .inl h'
   rcases key with k | k
   ·rcases live_in out r v k with g | ⟨x,hx,g⟩
    ·exact .inl g
    ·exact .inr ⟨x,List.mem_cons_of_mem _ hx,g⟩
   ·exact .inr ⟨n,List.mem_cons_self,k⟩
theorem prune_sound {g:GrD} (h:checkG g = 0):checkG (pruneG g) = 0:=by
 obtain ⟨hp,ht,hl⟩:=check_iff.1 h
 obtain ⟨⟨h1,h2⟩,h3⟩:=places_of.1 hp
 have hp':placesG (pruneG g) = true:=places_of.2 ⟨⟨h1,h2⟩,fun n hn => h3 n (keep_mem _ _ n hn)⟩
 refine check_iff.2 ⟨hp',(twice_iff hp').2 (fun v hv => ?_),?_⟩
 ·have:=(twice_iff hp).1 ht v hv
  have hle:=keep_sum9 (fun n:GnD => n.outs.count (v:Int)) (liveG g) g.nodes
  unfold defsG at this ⊢
  show (if (g.vals.getD v emptyG).2.2.1 = true then 1 else 0) + g.inp.count (v:Int) + ((keepL (liveG g) g.nodes).map fun n => n.outs.count (v:Int)).sum ≤ 1
  omega
 ·have hgl:=given_len9 g.vals g.inp
  unfold looseG at hl
  cases e:runG (givenG g.vals g.inp) g.nodes with
  | none => rw [e] at hl; cases hl
  | some dl =>
    rw [e] at hl
    simp only at hl
    rw [List.any_eq_false] at hl
    obtain ⟨e',g1,g2⟩:=prune_run g.out g.nodes (givenG g.vals g.inp) (givenG g.vals g.inp) dl rfl (fun n hn u hu => by rw [hgl]; exact inV_iff.1 ((h3 n hn).2 u hu)) (fun v _ _ hd => hd) (fun v hv => by
     rcases live_in g.out g.nodes v hv with k | ⟨n,hn,k⟩
     ·exact .inr (inV_iff.1 (h2 v k)).1
     ·rcases (h3 n hn).1 v k with q | q
      ·exact .inl q
      ·exact .inr (inV_iff.1 q).1) e (fun v hv => ⟨(inV_iff.1 (h2 v hv)).1,by simpa using hl v hv⟩)
    unfold looseG
    show (match runG (givenG g.vals g.inp) (keepL (liveG g) g.nodes) with | none => true | some dl => g.out.any fun v => !dl.getD v.toNat false) = false
    have g1':runG (givenG g.vals g.inp) (keepL (liveG g) g.nodes) = some e':=g1
    rw [g1']
    simp only
    rw [List.any_eq_false]
    intro v hv
    rw [g2 v hv]; decide
theorem ifc9 {p q:Prop} [Decidable p] [Decidable q] (h:p ↔ q):(if p then (1:Nat) else 0) = if q then 1 else 0:=by
 by_cases c:p
 ·rw [if_pos c,if_pos (h.1 c)]
 ·rw [if_neg c,if_neg (fun e => c (h.2 e))]
def cntG (l:List GnD) (i:Nat):Nat:=(l.filter fun d => decide (d.src = (i:Int))).length
theorem cnt_links (L:List Str) (i:Nat):∀ (l:List NodeD) (k:Nat),cntG (restG (linksG L k l)) i = if k ≤ i ∧ i < k + l.length ∧ (resV (l.getD (i - k) ([],[],[],[],[]))).1 ≠ 61 then 1 else 0
 | [],k => by
   rw [if_neg]
   ·rfl
   ·simp only [List.length_nil]; omega
 | n :: r,k => by
   have ih:=cnt_links L i r (k + 1)
   unfold cntG restG at ih ⊢
   show (((linkG L k n :: linksG L (k + 1) r).filter _).filter _).length = _
   have hop:(linkG L k n).op = (resV n).1:=rfl
   have hsr:(linkG L k n).src = (k:Int):=rfl
   by_cases c:(resV n).1 = 61
   ·rw [List.filter_cons_of_neg (by rw [hop]; simp [c]),ih]
    by_cases e:i = k
    ·subst e
     rw [if_neg (by omega),if_neg]
     rintro ⟨_,_,h⟩
     rw [Nat.sub_self] at h
     exact h c
    ·by_cases g:k + 1 ≤ i
     ·have hd:(n :: r).getD (i - k) ([],[],[],[],[]) = r.getD (i - (k + 1)) ([],[],[],[],[]):=by
       rw [show i - k = (i - (k + 1)) + 1 by omega]; rfl
      rw [hd]
      refine ifc9 ?_
      simp only [List.length_cons]
      constructor
      ·rintro ⟨a,b,d⟩; exact ⟨by omega,by omega,d⟩
      ·rintro ⟨a,b,d⟩; exact ⟨by omega,by omega,d⟩
     ·rw [if_neg (by omega),if_neg (by omega)]
   ·rw [List.filter_cons_of_pos (by rw [hop]; simp [c])]
    by_cases e:i = k
    ·subst e
     rw [List.filter_cons_of_pos (by rw [hsr]; simp),List.length_cons,ih,if_neg (by omega),if_pos]
     refine ⟨Nat.le_refl _,by simp,?_⟩
     rw [Nat.sub_self]; exact c
    ·rw [List.filter_cons_of_neg (by rw [hsr]; simp; omega),ih]
     by_cases g:k + 1 ≤ i
     ·have hd:(n :: r).getD (i - k) ([],[],[],[],[]) = r.getD (i - (k + 1)) ([],[],[],[],[]):=by
       rw [show i - k = (i - (k + 1)) + 1 by omega]; rfl
      rw [hd]
      refine ifc9 ?_
      simp only [List.length_cons]
      constructor
      ·rintro ⟨a,b,d⟩; exact ⟨by omega,by omega,d⟩
      ·rintro ⟨a,b,d⟩; exact ⟨by omega,by omega,d⟩
     ·rw [if_neg (by omega),if_neg (by omega)]
theorem built_cnt {m:ModelD} (h:(buildV m).2.1 = 0) (i:Nat) (hi:i < m.2.2.1.length):cntG (buildV m).1.nodes i = if (resV (m.2.2.1.getD i ([],[],[],[],[]))).1 ≠ 61 then 1 else 0:=by
 obtain ⟨L,hL,hres,hout,hrem,hg⟩:=built_of h
 rw [hg]
 obtain ⟨r1,_⟩:=restG_in hL
 obtain ⟨dl',hk,_⟩:=kahn_runs (givenG (valsG m) (inpG m)) (restG (nodesG L (baseG m) 0 m.2.2.1)) r1
 have hp:=hk.perm
 have e2:(kahnG (restG (nodesG L (baseG m) 0 m.2.2.1)).length (givenG (valsG m) (inpG m)) [] (restG (nodesG L (baseG m) 0 m.2.2.1))).2 = []:=hrem
 rw [e2,List.append_nil] at hp
 have hp':(rowG m L).1.Perm (restG (linksG L 0 m.2.2.1)):=by rw [links_all hL]; exact hp
 show cntG (rowG m L).1 i = _
 have:=cnt_links L i m.2.2.1 0
 unfold cntG at this ⊢
 rw [(hp'.filter _).length_eq,this]
 refine ifc9 ?_
 rw [Nat.sub_zero]
 exact ⟨fun h => h.2.2,fun h => ⟨Nat.zero_le _,by omega,h⟩⟩
theorem op_const {n:NodeD} (h:(resV n).2.2 = 0):(resV n).1 = 61 ↔ n.1 = [67,111,110,115,116,97,110,116]:=by
 have e:(resV n).1 = numT n.1:=by
  unfold resV at h ⊢
  split at h
  ·cases h
  ·rename_i h0
   rw [if_neg h0]
   split at h
   ·cases h
   ·rename_i h1
    rw [if_neg h1]
    split at h
    ·cases h
    ·rename_i D hD
     split at h
     ·cases h
     ·rename_i h2
      rw [if_neg h2]
 rw [e]
 have ht:(tabT.getD 60 ([],0,0,0,0,[])).1 = [67,111,110,115,116,97,110,116]:=by kernel_rfl
 constructor
 ·intro h61
  unfold numT at h61
  obtain ⟨k,hk,_,hp,_⟩:=idxI_lt (fun r:RowD => decide (r.1 = n.1)) ([],0,0,0,0,[]) tabT (by omega)
  have:k = 60:=by omega
  subst this
  rw [decide_eq_true_eq] at hp
  rw [← hp]; exact ht
 ·intro hn
  rw [hn]
  kernel_rfl
theorem built_place {m:ModelD} (h:(buildV m).2.1 ≠ 0):-1 ≤ (buildV m).2.2 ∧ (buildV m).2.2 < (m.2.2.1.length:Int):=by
 unfold buildV at h ⊢
 by_cases c0:checkM m ≠ 0
 ·rw [if_pos c0]; exact ⟨Int.le_refl _,by show (-1:Int) < _; omega⟩
 rw [if_neg c0] at h ⊢
 cases f1:firstG (fun i => decide ((resV (m.2.2.1.getD i ([],[],[],[],[]))).2.2 ≠ 0)) m.2.2.1.length 0 with
 | some i =>
   have:=firstG_some_lt _ _ _ _ f1
   exact ⟨by show (-1:Int) ≤ (i:Int); omega,by show ((i:Nat):Int) < _; omega⟩
 | none =>
 rw [f1] at h
 simp only at h ⊢
 cases f2:headG m with
 | none => exact ⟨Int.le_refl _,by show (-1:Int) < _; omega⟩
 | some L0 =>
 rw [f2] at h
 simp only at h ⊢
 cases f3:firstG (fun i => (outsG (some L0) (m.2.2.1.take (i + 1))).isNone) m.2.2.1.length 0 with
 | some i =>
   have:=firstG_some_lt _ _ _ _ f3
   exact ⟨by show (-1:Int) ≤ (i:Int); omega,by show ((i:Nat):Int) < _; omega⟩
 | none =>
 rw [f3] at h
 simp only at h ⊢
 cases f4:outsG (some L0) m.2.2.1 with
 | none => exact ⟨Int.le_refl _,by show (-1:Int) < _; omega⟩
 | some L =>
 rw [f4] at h
 simp only at h ⊢
 cases f5:firstG (fun i => !insG L (m.2.2.1.getD i ([],[],[],[],[])).2.2.1) m.2.2.1.length 0 with
 | some i =>
   have:=firstG_some_lt _ _ _ _ f5
   exact ⟨by show (-1:Int) ≤ (i:Int); omega,by show ((i:Nat):Int) < _; omega⟩
 | none =>
 rw [f5] at h
 simp only at h ⊢
 by_cases c6:(m.2.2.2.2.2.all fun v => decide (0 ≤ findG L v.1)) = false
 ·rw [if_pos c6]; exact ⟨Int.le_refl _,by show (-1:Int) < _; omega⟩
 rw [if_neg c6] at h ⊢
 cases e:(rowG m L).2 with
 | nil => rw [e] at h; exact absurd rfl h
 | cons a r =>
   have hL:outsG (headG m) m.2.2.1 = some L:=by rw [f2]; exact f4
   obtain ⟨i,n,hi,hx,_⟩:=row_mem hL a (.inr (by rw [e]; exact List.mem_cons_self))
   have hlt:=(List.getElem?_eq_some_iff.1 hi).1
   subst hx
   exact ⟨by show (-1:Int) ≤ (i:Int); omega,by show ((i:Nat):Int) < _; omega⟩
theorem prune_fit {g:GrD} (h:okGrD g):okGrD (pruneG g) :=
 ⟨h.nv,Nat.le_trans (keep_len _ _) h.nn,h.ni,h.no,h.vs,fun n hn => h.ns n (keep_mem _ _ n hn)⟩
def thG (l:List GnD) (n:Nat):List Int:=(List.range n).map fun i => ((cntG l i:Nat):Int)
theorem thG_len (l:List GnD) (n:Nat):(thG l n).length = n:=by simp [thG]
theorem thG_succ (l:List GnD) (n:Nat):thG l (n + 1) = thG l n ++ [((cntG l n:Nat):Int)]:=by
 unfold thG
 rw [List.range_succ,List.map_append]
 rfl
theorem thG_get (l:List GnD) (n i:Nat) (h:i < n):(thG l n).getD i 0 = ((cntG l i:Nat):Int):=by
 unfold thG
 rw [List.getD_eq_getElem?_getD,List.getElem?_map,List.getElem?_range h]
 rfl
theorem cntG_take (l:List GnA) (k i:Nat) (h:k < l.length):cntG ((l.take (k + 1)).map GnA.d) i = cntG ((l.take k).map GnA.d) i + if (l.getD k noGnA).src = (i:Int) then 1 else 0:=by
 unfold cntG
 rw [map_take9 GnA.d l noGnA k h,List.filter_append,List.length_append]
 congr 1
 by_cases c:(l.getD k noGnA).src = (i:Int)
 ·rw [if_pos c,List.filter_cons_of_pos (by exact decide_eq_true c)]
  rfl
 ·rw [if_neg c,List.filter_cons_of_neg (by simp only [decide_eq_true_eq]; exact c)]
  rfl
theorem cntG_le (l:List GnD) (i:Nat):cntG l i ≤ l.length:=List.length_filter_le _ _
end Go.Proofs.YtbmmcbagdomonaaGreat
