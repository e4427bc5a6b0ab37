import Derived.Test.YtbmmcbagdomonaaGreatV45
set_option maxRecDepth 100000
set_option maxHeartbeats 40000000
namespace Go.Proofs.YtbmmcbagdomonaaGreat
open Go.RowKit
set_option linter.unusedVariables false
set_option linter.unusedSimpArgs false
theorem cidxInt9_any (K:FuncId) (hK:Ent K) (caps:Array Value) (P:Int → Bool) (p:Option Addr) (c:Nat) (l:List Int) (w:World) (h:Ints .i64 w p c l)
  (H:∀ v,Below w.heap.size w v → ∀ x ∈ l,Calls Tryz.prog K (#[.int .i64 x] ++ caps) v fun e w' => e = .returned (.bool (P x)) ∧ Below v.heap.size v w') :
  Calls Tryz.prog 117 #[.slice p l.length c,.func (.func K) #[] caps] w fun e w' => (∃ r:Int,e = .returned (.int .i64 r) ∧ decide (0 ≤ r) = l.any P) ∧ Below w.heap.size w w':=by
 have hk:∀ (args:Array Value) (v:World),(callFunc K args).run Tryz.prog v = .ok (.enter K args) v:=hK
 have A1:=hide h.ls
 have HH:=hide H
 clear hK
 have nl:=h.ls.len
 clear h H
 go_enter Tryz.func117,Tryz.ntmps117
 go_wp2_with fail
 go_loopw [8] (fun iv wr => ∃ n:Nat,iv = .int .i64 n ∧ n ≤ l.length ∧ Hid ((l.take n).any P = false) ∧ Hid (Below w.heap.size w wr)) (fun iv _ => l.length - (intOf iv).toNat)
 case atStart => exact ⟨0,rfl,by omega,hide rfl,hide (Below.refl _ _)⟩
 case round =>
  obtain ⟨n,rfl,hn,HN,HB⟩:=hrel
  by_cases hlt:n < l.length
  ·have hi:(n:Int) < (l.length:Int):=by omega
   obtain ⟨b,o,rfl,hb,hc⟩:=((uh A1).below (uh HB)).lies (by omega)
   have k0:wr.cell? ⟨b,o + n,none⟩ = some (.int .i64 (l.getD n default)):=hc n hlt
   have HX:=hide (fun v (hv:Below wr.heap.size wr v) => uh HH v (bl_tr (uh HB) hv) (l.getD n default) (getD_mem7 hlt))
   have HT:=hide (any_take7 P default l n hlt)
   have HM:=hide (any_mem7 (P:=P) (z:=default) hlt)
   generalize P (l.getD n default) = D at HX HT HM
   generalize l.getD n default = a at k0 HX
   clear hc
   cases D
   ·have HN2:Hid ((l.take (n + 1)).any P = false):=hide (by rw [uh HT,uh HN]; rfl)
    clear HT HM HN
    go_wp2_with fail
    refine (uh HX _ (Below.refl _ _)).mono ?_
    rintro e w1 ⟨rfl,hb1⟩
    have BB:=hide (bl_tr (uh HB) hb1)
    clear hb1
    go_wp2_with fail
    go_roundw
    case rel => exact ⟨n + 1,by go_num,by omega,HN2,BB⟩
    case measure => simp [intOf]; omega
   ·have HE:=hide (uh HM rfl)
    clear HT HM HN
    go_wp2_with fail
    refine (uh HX _ (Below.refl _ _)).mono ?_
    rintro e w1 ⟨rfl,hb1⟩
    have BB:=hide (bl_tr (uh HB) hb1)
    clear hb1
    go_wp2_with fail
    go_ret
    exact ⟨⟨n,rfl,by rw [uh HE]; simp⟩,uh BB⟩
  ·have hi:¬ (n:Int) < (l.length:Int):=by omega
   have HE:Hid (l.any P = false):=hide (by have:=uh HN; rw [List.take_of_length_le (by omega)] at this; exact this)
   clear HN
   go_wp2_with fail
   go_ret
   exact ⟨⟨-1,rfl,by rw [uh HE]; rfl⟩,uh HB⟩
theorem ccontInt9_any (K:FuncId) (hK:Ent K) (caps:Array Value) (P:Int → Bool) (p:Option Addr) (c:Nat) (l:List Int) (w:World) (h:Ints .i64 w p c l)
  (H:∀ v,Below w.heap.size w v → ∀ x ∈ l,Calls Tryz.prog K (#[.int .i64 x] ++ caps) v fun e w' => e = .returned (.bool (P x)) ∧ Below v.heap.size v w') :
  Calls Tryz.prog 78 #[.slice p l.length c,.func (.func K) #[] caps] w fun e w' => e = .returned (.bool (l.any P)) ∧ Below w.heap.size w w':=by
 have IX:=hide (cidxInt9_any K hK caps P p c l w h H)
 generalize l.any P = D at IX ⊢
 clear h H
 go_enter Tryz.func78,Tryz.ntmps78
 go_wp2_with fail
 refine (uh IX).mono ?_
 rintro e v ⟨⟨r,rfl,hr⟩,hb⟩
 have HR:=hide hr
 have HB:=hide hb
 clear hr hb
 go_wp2_with fail
 go_ret
 exact ⟨ret_bool (uh HR),uh HB⟩
def inV (n:Nat) (v:Int):Bool:=decide (0 ≤ v) && decide (v < (n:Int))
theorem cisval9_any (G:GrA) (v:Int) (w:World):Calls Tryz.prog 77 #[grV G,.int .i64 v] w fun e w' => e = .returned (.bool (inV G.vals.length v)) ∧ Below w.heap.size w w':=by
 obtain ⟨vals,qv,cv,nodes,qn,cn,inp,qi,ci,out,qo,co⟩:=G
 unfold inV grV grCells
 simp only
 go_enter Tryz.func77,Tryz.ntmps77
 by_cases h0:0 ≤ v
 ·have t0:decide (0 ≤ v) = true:=decide_eq_true h0
  go_wp2_with fail
  go_ret
  exact ⟨by first | rfl | (rw [t0]; rfl),al1p _ _⟩
 ·have t0:decide (0 ≤ v) = false:=decide_eq_false h0
  go_wp2_with fail
  go_ret
  exact ⟨by first | rfl | (rw [t0]; rfl),al1p _ _⟩
theorem cbeyond9_any (G:GrA) (v:Int) (g:Nat) (t:TypeId) (w:World) (h:Box w g (grCells G) t):Calls Tryz.prog 76 #[.int .i64 v,.pointer (some ⟨g,0,none⟩)] w fun e w' => e = .returned (.bool (!inV G.vals.length v)) ∧ Below w.heap.size w w':=by
 have CI:=hide (cisval9_any G v)
 have x1:=h.cell
 clear h
 obtain ⟨vals,qv,cv,nodes,qn,cn,inp,qi,ci,out,qo,co⟩:=G
 unfold grV grCells at CI
 unfold grCells at x1
 simp only at CI x1 ⊢
 generalize inV vals.length v = B at CI ⊢
 go_enter Tryz.func76,Tryz.ntmps76
 go_wp2_with fail
 refine (uh CI _).mono ?_
 rintro e w1 ⟨rfl,hb⟩
 go_wp2_with fail
 go_ret
 exact ⟨rfl,hb⟩
theorem cwrong9_any (G:GrA) (v:Int) (g f:Nat) (t t':TypeId) (w:World) (h:Box w g (grCells G) t) (hf:Box w f #[.func (.func 76) #[] #[.pointer (some ⟨g,0,none⟩)]] t') :
  Calls Tryz.prog 79 #[.int .i64 v,.pointer (some ⟨f,0,none⟩)] w fun e w' => e = .returned (.bool (decide (v ≠ -1) && !inV G.vals.length v)) ∧ Below w.heap.size w w':=by
 have HK:Ent 76:=ent_of Tryz.func76 (by kernel_rfl) rfl
 have hk:∀ (args:Array Value) (v:World),(callFunc 76 args).run Tryz.prog v = .ok (.enter 76 args) v:=HK
 have CB:=hide (cbeyond9_any G v g t w h)
 have f1:=hf.cell
 have fl:=hf.lt
 clear h hf HK
 generalize inV G.vals.length v = B at CB ⊢
 go_enter Tryz.func79,Tryz.ntmps79
 by_cases h0:v = -1
 ·subst h0
  go_wp2_with fail
  go_ret
  exact ⟨rfl,Below.refl _ _⟩
 ·have e0:decide (v ≠ -1) = true:=by simpa using h0
  rw [e0]
  have t0:(v != -1) = true:=by simpa using h0
  go_wp2_with fail
  refine (uh CB).mono ?_
  rintro e w1 ⟨rfl,hb⟩
  go_wp2_with fail
  go_ret
  exact ⟨by cases B <;> rfl,hb⟩
def badN (n:Nat) (x:GnD):Bool:=(x.ins.any fun v => decide (v ≠ -1) && !inV n v) || x.outs.any fun v => !inV n v
def placesG (g:GrD):Bool:=!((g.inp.any fun v => !inV g.vals.length v) || (g.out.any fun v => !inV g.vals.length v)) && !(g.nodes.any (badN g.vals.length))
theorem cplaces9_any (G:GrA) (OK:Nat → Prop) (w:World) (h:GrIn OK w G):Calls Tryz.prog 36 #[grV G] w fun e w' => e = .returned (.bool (placesG G.d)) ∧ Below w.heap.size w w':=by
 have HK1:Ent 76:=ent_of Tryz.func76 (by kernel_rfl) rfl
 have HK2:Ent 79:=ent_of Tryz.func79 (by kernel_rfl) rfl
 have C1:=hide (fun (v:World) (g:Nat) (t:TypeId) (hx:Box v g (grCells G) t) p c l (hl:Ints .i64 v p c l) => ccontInt9_any 76 HK1 #[.pointer (some ⟨g,0,none⟩)] (fun u => !inV G.vals.length u) p c l v hl (fun u hu x _ => cbeyond9_any G x g t u (hx.below hu)))
 have C2:=hide (fun (v:World) (g f:Nat) (t t':TypeId) (hx:Box v g (grCells G) t) (hf:Box v f #[.func (.func 76) #[] #[.pointer (some ⟨g,0,none⟩)]] t') p c l (hl:Ints .i64 v p c l) => ccontInt9_any 79 HK2 #[.pointer (some ⟨f,0,none⟩)] (fun u => decide (u ≠ -1) && !inV G.vals.length u) p c l v hl (fun u hu x _ => cwrong9_any G x g f t t' u (hx.below hu) (hf.below hu)))
 have HG:=hide h
 obtain ⟨R,hR⟩:∃ R,placesG G.d = R:=⟨_,rfl⟩
 have HR:Hid ((!((G.inp.any fun v => !inV G.vals.length v) || (G.out.any fun v => !inV G.vals.length v)) && !((G.nodes.map GnA.d).any (badN G.vals.length))) = R):=hide (by rw [← hR]; unfold placesG GrA.d; simp only [List.length_map])
 rw [hR]
 clear hR
 have HV:=hide h.1
 have HN:=hide h.2.1
 have HI:=hide h.2.2.1
 have HO:=hide h.2.2.2
 clear h HK1 HK2
 obtain ⟨vals,qv,cv,nodes,qn,cn,inp,qi,ci,out,qo,co⟩:=G
 simp only at HV HN HI HO
 unfold grV grCells
 unfold grCells at C1 C2
 simp only at C1 C2 HR ⊢
 obtain ⟨N,hN⟩:∃ N,vals.length = N:=⟨_,rfl⟩
 rw [hN] at C1 C2 HR ⊢
 clear hN HV
 have hlen:=(uh HN).1.len
 obtain ⟨W1,hW1⟩:∃ W,w.alloc (.cells #[.slice qv N cv,.slice qn nodes.length cn,.slice qi inp.length ci,.slice qo out.length co] 32) = W:=⟨_,rfl⟩
 have B1:Hid (Below w.heap.size w W1):=hide (by rw [← hW1]; exact al1p _ _)
 have X1:Hid (Box W1 w.heap.size #[.slice qv N cv,.slice qn nodes.length cn,.slice qi inp.length ci,.slice qo out.length co] 32):=hide (by rw [← hW1]; exact Box.new _ _ _)
 go_enter Tryz.func36,Tryz.ntmps36
 go_upto_region 1 with fail
 (try rw [hW1])
 clear hW1
 obtain ⟨g,hg⟩:∃ g,w.heap.size = g:=⟨_,rfl⟩
 have HGE:=hide hg
 rw [hg] at X1 ⊢
 clear hg
 have hmf:∀ (fn:Fn) (first cap:Array Value) (w:World),(Instr.makeFunc fn first cap).run Tryz.prog w = .ok (.func fn first cap) w:=fun _ _ _ _ => rfl
 have hsf:∀ (fn:Fn) (first cap:Array Value) (a:Addr) (m:Mode) (w:World),(store a (.func fn first cap) m).run Tryz.prog w = stored Tryz.prog w a (.func fn first cap) m:=fun _ _ _ _ _ _ => run_store Tryz.prog _ _ _ _ rfl
 go_upto_region 2 with fail
 obtain ⟨W2,hW2⟩:∃ W,W1.alloc (.cells #[.func (.func 76) #[] #[.pointer (some ⟨g,0,none⟩)]] 126) = W:=⟨_,rfl⟩
 have Y2:Hid (Box W2 W1.heap.size #[.func (.func 76) #[] #[.pointer (some ⟨g,0,none⟩)]] 126):=hide (by rw [← hW2]; exact Box.new _ _ _)
 have X2:=hide ((uh X1).below (show Below W1.heap.size W1 W2 by rw [← hW2]; exact al1p _ _))
 have B2:Hid (Below w.heap.size w W2):=hide (bl_tr (uh B1) (by rw [← hW2]; exact al1p _ _))
 rw [hW2]
 clear hW2 X1
 obtain ⟨f,hf⟩:∃ f,W1.heap.size = f:=⟨_,rfl⟩
 rw [hf] at Y2 ⊢
 clear hf
 have CI:=hide (fun v (hv:Below W2.heap.size W2 v) => uh C1 v g _ ((uh X2).below hv) qi ci inp ((uh HI).hold (Hold.below (bl_tr (uh B2) hv))).1)
 have CO:=hide (fun v (hv:Below W2.heap.size W2 v) => uh C1 v g _ ((uh X2).below hv) qo co out ((uh HO).hold (Hold.below (bl_tr (uh B2) hv))).1)
 obtain ⟨b1,hb1⟩:∃ b,(inp.any fun v => !inV N v) = b:=⟨_,rfl⟩
 obtain ⟨b2,hb2⟩:∃ b,(out.any fun v => !inV N v) = b:=⟨_,rfl⟩
 rw [hb1] at CI HR
 rw [hb2] at CO HR
 have x2:=(uh X2).cell
 have y2:=(uh Y2).cell
 clear hb1 hb2
 cases b1 with
 | true =>
   have e0:R = false:=by rw [← uh HR]; rfl
   subst e0
   go_wp2_with fail
   refine (uh CI _ (Below.refl _ _)).mono ?_
   rintro e w3 ⟨rfl,hb⟩
   have B3:=hide (bl_tr (uh B2) hb)
   clear hb x2 y2
   go_wp2_with fail
   go_ret
   exact ⟨rfl,by have:=uh HGE; subst this; exact uh B3⟩
 | false =>
 go_upto_region 2 with fail
 go_wp2_with fail
 refine (uh CI _ (Below.refl _ _)).mono ?_
 rintro e w3 ⟨rfl,hb⟩
 have K3:=hide hb
 have x3:=((uh X2).below hb).cell
 have y3:=((uh Y2).below hb).cell
 clear hb x2 y2
 cases b2 with
 | true =>
   have e0:R = false:=by rw [← uh HR]; rfl
   subst e0
   go_wp2_with fail
   refine (uh CO _ (uh K3)).mono ?_
   rintro e w4 ⟨rfl,hb⟩
   have B4:=hide (bl_tr (uh B2) (bl_tr (uh K3) hb))
   clear hb x3 y3
   go_wp2_with fail
   go_ret
   exact ⟨rfl,uh B4⟩
 | false =>
 go_wp2_with fail
 refine (uh CO _ (uh K3)).mono ?_
 rintro e w4 ⟨rfl,hb⟩
 have K4:=hide (bl_tr (uh K3) hb)
 have X4:=hide ((uh X2).below (uh K4))
 have x4:=(uh X4).cell
 clear hb x3 y3
 go_wp2_with fail
 go_loopw [21] (fun iv wr => ∃ n:Nat,iv = .int .i64 n ∧ n ≤ nodes.length ∧ Hid (((nodes.take n).map GnA.d).any (badN N) = false) ∧ Hid (Below W2.heap.size W2 wr)) (fun iv _ => nodes.length - (intOf iv).toNat)
 case atStart => exact ⟨0,rfl,by omega,hide rfl,K4⟩
 case round =>
  obtain ⟨n,rfl,hn,HF,HB⟩:=hrel
  have BW:=hide (bl_tr (uh B2) (uh HB))
  by_cases hlt:n < nodes.length
  ·have hi:(n:Int) < (nodes.length:Int):=by omega
   obtain ⟨bg,og,hq,hbg,_⟩:=(uh HN).1.lies (show 0 < nodes.length by omega)
   subst hq
   have A1:Hid (At8 wr bg (og + n * 40) (gnCells (nodes.getD n noGnA))):=hide (Rc.at9 ((uh HN).1.below (uh BW)) hlt)
   have HX:Hid (GnIn OK w (nodes.getD n noGnA)):=hide ((uh HN).2.2 _ (getD_mem9 hlt))
   have HT:Hid (((nodes.take (n + 1)).map GnA.d).any (badN N) = (((nodes.take n).map GnA.d).any (badN N) || badN N (nodes.getD n noGnA).d)):=hide (by
    rw [map_take9 GnA.d nodes noGnA n hlt,List.any_append,List.any_cons,List.any_nil,Bool.or_false])
   have HM:Hid (badN N (nodes.getD n noGnA).d = true → (nodes.map GnA.d).any (badN N) = true):=hide (fun h => List.any_eq_true.2 ⟨_,List.mem_map.2 ⟨_,getD_mem9 hlt,rfl⟩,h⟩)
   generalize nodes.getD n noGnA = x at A1 HX HT HM
   have x5:=(uh X2).below (uh HB)
   have HBX:Hid (badN N x.d = ((x.ins.any fun v => decide (v ≠ -1) && !inV N v) || (x.outs.any fun v => !inV N v))):=hide rfl
   have Cw:=hide (fun v (hv:Below wr.heap.size wr v) => uh C2 v g f _ _ ((uh X2).below (bl_tr (uh HB) hv)) ((uh Y2).below (bl_tr (uh HB) hv)) x.qi x.ci x.ins ((gnP.hold (uh HX) (Hold.below (bl_tr (uh BW) hv))).2.2.1).1)
   have Cb:=hide (fun v (hv:Below wr.heap.size wr v) => uh C1 v g _ ((uh X2).below (bl_tr (uh HB) hv)) x.qo x.co x.outs ((gnP.hold (uh HX) (Hold.below (bl_tr (uh BW) hv))).2.2.2.1).1)
   obtain ⟨b3,hb3⟩:∃ b,(x.ins.any fun v => decide (v ≠ -1) && !inV N v) = b:=⟨_,rfl⟩
   obtain ⟨b4,hb4⟩:∃ b,(x.outs.any fun v => !inV N v) = b:=⟨_,rfl⟩
   rw [hb3] at Cw HBX
   rw [hb4] at Cb HBX
   clear hb3 hb4 x5 x4
   go_upto_region 8 with (first
     | (refine wpList_isLoad 51 rfl ?_; refine wpList_loadG aggGn rfl _ rfl rfl (gnWd.2.1 x) (uh A1) ?_)
     | (refine wpList_isStore 51 rfl ?_; (refine wpList_storeG aggGn rfl _ _ rfl rfl rfl (Box.new wr gnZc 51) (gnSize x) rfl (gnWd.ones x) ?_; intro w5 b5 s5 z5; have G5:=hide b5; have B5:Hid (Below wr.heap.size wr w5):=hide (bl_tr7 (al1p _ _) s5.1); have v37:w5.cell? ⟨wr.heap.size,37,none⟩ = some (.slice x.qi x.ins.length x.ci):=((uh G5).cell 37).trans (by simpa using gn_37 x); have v38:w5.cell? ⟨wr.heap.size,38,none⟩ = some (.slice x.qo x.outs.length x.co):=((uh G5).cell 38).trans (by simpa using gn_38 x); clear b5 s5 z5)))
   have y5:=((uh Y2).below (bl_tr (uh HB) (uh B5))).cell
   cases b3 with
   | true =>
     have e0:R = false:=by rw [← uh HR,uh HM (uh HBX)]; rfl
     subst e0
     go_wp2_with fail
     refine (uh Cw _ (uh B5)).mono ?_
     rintro e w6 ⟨rfl,hb⟩
     have B6:=hide (bl_tr (uh BW) (bl_tr (uh B5) hb))
     clear hb v37 v38 y5
     go_wp2_with fail
     go_ret
     exact ⟨rfl,uh B6⟩
   | false =>
   go_wp2_with fail
   refine (uh Cw _ (uh B5)).mono ?_
   rintro e w6 ⟨rfl,hb⟩
   have K6:=hide (bl_tr (uh B5) hb)
   have v38':w6.cell? ⟨wr.heap.size,38,none⟩ = some (.slice x.qo x.outs.length x.co):=(((uh G5).below hb).cell 38).trans (by simpa using gn_38 x)
   have y6:=((uh Y2).below (bl_tr (uh HB) (uh K6))).cell
   clear hb v37 v38 y5
   cases b4 with
   | true =>
     have e0:R = false:=by rw [← uh HR,uh HM (uh HBX)]; rfl
     subst e0
     go_wp2_with fail
     refine (uh Cb _ (uh K6)).mono ?_
     rintro e w7 ⟨rfl,hb⟩
     have B7:=hide (bl_tr (uh BW) (bl_tr (uh K6) hb))
     clear hb v38' y6
     go_wp2_with fail
     go_ret
     exact ⟨rfl,uh B7⟩
   | false =>
   go_wp2_with fail
   refine (uh Cb _ (uh K6)).mono ?_
   rintro e w7 ⟨rfl,hb⟩
   have K7:=hide (bl_tr (uh HB) (bl_tr (uh K6) hb))
   clear hb v38' y6
   go_wp2_with fail
   go_roundw
   case rel => exact ⟨n + 1,by go_num,by omega,hide (by rw [uh HT,uh HF,uh HBX]; rfl),K7⟩
   case measure => simp [intOf]; omega
  ·have hi:¬ (n:Int) < (nodes.length:Int):=by omega
   have e0:R = true:=by
    have hf:=uh HF
    rw [List.take_of_length_le (by omega)] at hf
    rw [← uh HR,hf]; rfl
   subst e0
   go_wp2_with fail
   go_ret
   exact ⟨rfl,uh BW⟩
end Go.Proofs.YtbmmcbagdomonaaGreat
