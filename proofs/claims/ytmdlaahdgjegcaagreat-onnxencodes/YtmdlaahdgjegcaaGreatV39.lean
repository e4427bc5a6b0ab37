import Derived.Test.YtmdlaahdgjegcaaGreatV38
set_option maxRecDepth 100000
set_option maxHeartbeats 8000000
namespace Go.Proofs.YtmdlaahdgjegcaaGreat
open Go.RowKit
set_option linter.unusedVariables false
theorem Tag.mono7 {t:TypeId} {B C n:Nat} {w:World} {p:Option Addr} (h:Tag t B w p n) (hB:B ≤ C):Tag t C w p n:=fun hp => by
 obtain ⟨b,o,e,h1,h2⟩:=h hp
 exact ⟨b,o,e,h1,h2.elim (fun h => .inl (by omega)) .inr⟩
theorem VaIn.mono7 {B C:Nat} {w:World} {a:VaA} (h:VaIn B w a) (hB:B ≤ C):VaIn C w a:=⟨h.1,h.2.1,h.2.2.1,h.2.2.2.mono7 hB⟩
theorem VaIn.bel {B:Nat} {w w':World} {a:VaA} (h:VaIn B w a) (hb:Below w.heap.size w w'):VaIn B w' a:=h.kept (TS:=[3]) (by simp) (Kept.below hb)
theorem rvals7_true (p q:Option Addr) (c c':Nat) (xs ys:List VaA) {B C:Nat} (w v:World) (hv:Below w.heap.size w v) (h1:Rc 3 vaCells noVaA w p c xs) (h2:Rc 3 vaCells noVaA w q c' ys) (i1:∀ x ∈ xs,VaIn B w x) (i2:∀ x ∈ ys,VaIn C w x) (he:xs.map VaA.d = ys.map VaA.d) :
  Calls Tryz.prog 33 #[.slice p xs.length c,.slice q ys.length c'] v fun e w' => e = .returned (.bool true) ∧ Below v.heap.size v w':=by
 have h:=rvals7_any p q c c' xs ys (B:=max B C) v (h1.below hv) (h2.below hv) (fun x hx => ((i1 x hx).mono7 (Nat.le_max_left _ _)).bel hv) (fun x hx => ((i2 x hx).mono7 (Nat.le_max_right _ _)).bel hv)
 rw [show decide (xs.map VaA.d = ys.map VaA.d) = true from decide_eq_true he] at h
 exact h
theorem rinit_true (a b:InA) {B C:Nat} (w v:World) (hv:Below w.heap.size w v) (h:InIn B w a) (k:InIn C w b) (he:a.d = b.d) :
  Calls Tryz.prog 35 #[tenV a.T a.A,tenV b.T b.A] v fun e w' => e = .returned (.bool true) ∧ Below v.heap.size v w':=by
 have e:a.T = b.T:=congrArg Prod.snd he
 have h:=rten_same7 a.T b.T a.A b.A v (h.2.1.below hv) (k.2.1.below hv)
 rw [show decide (a.T = b.T) = true from decide_eq_true e] at h
 exact h
theorem rmodel_true (a b:MoA) {B C:Nat} (w:World) (h:MoIn B w a) (k:MoIn C w b) (he:a.d = b.d) :
  Calls Tryz.prog 13 #[moV a,moV b] w fun e w' => e = .returned (.bool true) ∧ Below w.heap.size w w':=by
 obtain ⟨aops,anm,anodes,aqn,acn,ainits,aqi,aci,ainp,aqp,acp,aout,aqo,aco⟩:=a
 obtain ⟨bops,bnm,bnodes,bqn,bcn,binits,bqi,bci,binp,bqp,bcp,bout,bqo,bco⟩:=b
 unfold MoA.d at he
 simp only [Prod.mk.injEq] at he
 obtain ⟨rfl,rfl,he1,he2,he3,he4⟩:=he
 obtain ⟨_,_,⟨a1,a2,_⟩,⟨b1,b2,_⟩,⟨c1,c2,_⟩,d1,d2,_⟩:=h
 obtain ⟨_,_,⟨a1',a2',_⟩,⟨b1',b2',_⟩,⟨c1',c2',_⟩,d1',d2',_⟩:=k
 simp only at a1 a2 b1 b2 c1 c2 d1 d2 a1' a2' b1' b2' c1' c2' d1' d2'
 have hl1:anodes.length = bnodes.length:=by have:=congrArg List.length he1; simpa using this
 have hl2:ainits.length = binits.length:=by have:=congrArg List.length he2; simpa using this
 have S1:=hide (fun v (hv:Below w.heap.size w v) => rvals7_true aqp bqp acp bcp ainp binp w v hv c2 c2' c1 c1' he3)
 have S2:=hide (fun v (hv:Below w.heap.size w v) => rvals7_true aqo bqo aco bco aout bout w v hv d2 d2' d1 d1' he4)
 have SN:=hide (fun n (h1:n < anodes.length) (h2:n < bnodes.length) v (hv:Below w.heap.size w v) => rnode_true (anodes.getD n noNoA) (bnodes.getD n noNoA) v ((a1 _ (getD_mem7 h1)).bel hv) ((a1' _ (getD_mem7 h2)).bel hv) (map_getD7 h1 h2 he1))
 have SI:=hide (fun n (h1:n < ainits.length) (h2:n < binits.length) v (hv:Below w.heap.size w v) => rinit_true (ainits.getD n noInA) (binits.getD n noInA) w v hv (b1 _ (getD_mem7 h1)) (b1' _ (getD_mem7 h2)) (map_getD7 h1 h2 he2))
 have HEI:=hide he2
 have R1:=hide a2
 have R2:=hide a2'
 have R3:=hide b2
 have R4:=hide b2'
 have nl:=a2.len
 have nl2:=a2'.len
 have nl3:=b2.len
 have nl4:=b2'.len
 have HL1:=hide hl1
 have HL2:=hide hl2
 have tl:((anodes.length:Int) != (bnodes.length:Int)) = false:=bneFp (by omega)
 have tl2:((ainits.length:Int) != (binits.length:Int)) = false:=bneFp (by omega)
 clear a1 a2 b1 b2 c1 c2 d1 d2 a1' a2' b1' b2' c1' c2' d1' d2' he1 he2 he3 he4 hl1 hl2
 unfold moV moCells
 simp only [strV]
 have t2:((strOfNums anm).toList == (strOfNums anm).toList) = true:=by simp
 have BA:=hide (al27 w (Obj.cells #[.int .i64 aops,.string (strOfNums anm),.slice aqn anodes.length acn,.slice aqi ainits.length aci,.slice aqp ainp.length acp,.slice aqo aout.length aco] 29) (Obj.cells #[.int .i64 aops,.string (strOfNums anm),.slice bqn bnodes.length bcn,.slice bqi binits.length bci,.slice bqp binp.length bcp,.slice bqo bout.length bco] 29))
 have X0:=hide (Box.alloc (Box.new w #[.int .i64 aops,.string (strOfNums anm),.slice aqn anodes.length acn,.slice aqi ainits.length aci,.slice aqp ainp.length acp,.slice aqo aout.length aco] 29) (Obj.cells #[.int .i64 aops,.string (strOfNums anm),.slice bqn bnodes.length bcn,.slice bqi binits.length bci,.slice bqp binp.length bcp,.slice bqo bout.length bco] 29))
 have Z0:Hid (Box ((w.alloc (Obj.cells #[.int .i64 aops,.string (strOfNums anm),.slice aqn anodes.length acn,.slice aqi ainits.length aci,.slice aqp ainp.length acp,.slice aqo aout.length aco] 29)).alloc (Obj.cells #[.int .i64 aops,.string (strOfNums anm),.slice bqn bnodes.length bcn,.slice bqi binits.length bci,.slice bqp binp.length bcp,.slice bqo bout.length bco] 29)) (w.heap.size + 1) #[.int .i64 aops,.string (strOfNums anm),.slice bqn bnodes.length bcn,.slice bqi binits.length bci,.slice bqp binp.length bcp,.slice bqo bout.length bco] 29):=hide (by have h:=Box.new (w.alloc (Obj.cells #[.int .i64 aops,.string (strOfNums anm),.slice aqn anodes.length acn,.slice aqi ainits.length aci,.slice aqp ainp.length acp,.slice aqo aout.length aco] 29)) #[.int .i64 aops,.string (strOfNums anm),.slice bqn bnodes.length bcn,.slice bqi binits.length bci,.slice bqp binp.length bcp,.slice bqo bout.length bco] 29; rw [alloc_size6] at h; exact h)
 go_enter Tryz.func13,Tryz.ntmps13
 go_wp2_with fail
 refine (uh S1 _ (uh BA)).mono ?_
 rintro e w1 ⟨rfl,hb⟩
 have B1:=hide (bl_tr (uh BA) hb)
 have X1':=hide ((uh X0).below hb)
 have Z1':=hide ((uh Z0).below hb)
 have x1:=(uh X1').cell
 have x2:=(uh Z1').cell
 clear hb
 go_wp2_with fail
 refine (uh S2 _ (uh B1)).mono ?_
 rintro e w2 ⟨rfl,hb⟩
 have B0:=hide (bl_tr (uh B1) hb)
 have X1:=hide ((uh X1').below hb)
 have X2:=hide ((uh Z1').below hb)
 clear hb x1 x2
 have x1:=(uh X1).cell
 have x2:=(uh X2).cell
 go_wp2_with fail
 clear x1 x2 tl tl2 t2
 go_loopw [5] (fun iv wr => ∃ n:Nat,iv = .int .i64 n ∧ n ≤ anodes.length ∧ Hid (Below w2.heap.size w2 wr)) (fun iv _ => anodes.length - (intOf iv).toNat)
 case atStart => exact ⟨0,rfl,by omega,hide (Below.refl _ _)⟩
 case round =>
  obtain ⟨n,rfl,hn,HB⟩:=hrel
  by_cases hlt:n < anodes.length
  ·have hlt2:n < bnodes.length:=by rw [← uh HL1]; exact hlt
   have hi:(n:Int) < (anodes.length:Int):=by omega
   have hi2:(n:Int) < (bnodes.length:Int):=by omega
   have BW:=hide (bl_tr (uh B0) (uh HB))
   have x1:=((uh X1).below (uh HB)).cell
   have x2:=((uh X2).below (uh HB)).cell
   have x1d:=((uh X1).below (bl_tr (uh HB) (bdrewp wr))).cell
   have x2d:=((uh X2).below (bl_tr (uh HB) (bdrewp wr))).cell
   obtain ⟨b,o,rfl,hb,hc⟩:=((uh R1).below (uh BW)).lies (by omega)
   obtain ⟨b',o',rfl,hb',hc'⟩:=((uh R2).below (uh BW)).lies (by omega)
   have hcx:=hc n hlt
   have hcy:=hc' n hlt2
   have CS:=hide (uh SN n hlt hlt2)
   clear hc hc' hlt2
   generalize anodes.getD n noNoA = x at hcx CS
   generalize bnodes.getD n noNoA = y at hcy CS
   obtain ⟨xop,xnm,xins,xqi,xci,xouts,xqo,xco,xat,xqa,xca⟩:=x
   obtain ⟨yop,ynm,yins,yqi,yci,youts,yqo,yco,yat,yqa,yca⟩:=y
   skip
   skip
   skip
   have k0:wr.cell? ⟨b,o + n * 5,none⟩ = some (.string (strOfNums xop)):=hcx 0 _ rfl
   have k1:wr.cell? ⟨b,o + n * 5 + 1,none⟩ = some (.string (strOfNums xnm)):=hcx 1 _ rfl
   have k2:wr.cell? ⟨b,o + n * 5 + 2,none⟩ = some (.slice xqi xins.length xci):=hcx 2 _ rfl
   have k3:wr.cell? ⟨b,o + n * 5 + 3,none⟩ = some (.slice xqo xouts.length xco):=hcx 3 _ rfl
   have k4:wr.cell? ⟨b,o + n * 5 + 4,none⟩ = some (.slice xqa xat.length xca):=hcx 4 _ rfl
   have m0:wr.cell? ⟨b',o' + n * 5,none⟩ = some (.string (strOfNums yop)):=hcy 0 _ rfl
   have m1:wr.cell? ⟨b',o' + n * 5 + 1,none⟩ = some (.string (strOfNums ynm)):=hcy 1 _ rfl
   have m2:wr.cell? ⟨b',o' + n * 5 + 2,none⟩ = some (.slice yqi yins.length yci):=hcy 2 _ rfl
   have m3:wr.cell? ⟨b',o' + n * 5 + 3,none⟩ = some (.slice yqo youts.length yco):=hcy 3 _ rfl
   have m4:wr.cell? ⟨b',o' + n * 5 + 4,none⟩ = some (.slice yqa yat.length yca):=hcy 4 _ rfl
   clear hcx hcy
   have k0d:wr.drew.cell? ⟨b,o + n * 5,none⟩ = some (.string (strOfNums xop)):=((bdrewp wr).cell (p:=⟨b,o + n * 5,none⟩) hb).trans k0
   have k1d:wr.drew.cell? ⟨b,o + n * 5 + 1,none⟩ = some (.string (strOfNums xnm)):=((bdrewp wr).cell (p:=⟨b,o + n * 5 + 1,none⟩) hb).trans k1
   have k2d:wr.drew.cell? ⟨b,o + n * 5 + 2,none⟩ = some (.slice xqi xins.length xci):=((bdrewp wr).cell (p:=⟨b,o + n * 5 + 2,none⟩) hb).trans k2
   have k3d:wr.drew.cell? ⟨b,o + n * 5 + 3,none⟩ = some (.slice xqo xouts.length xco):=((bdrewp wr).cell (p:=⟨b,o + n * 5 + 3,none⟩) hb).trans k3
   have k4d:wr.drew.cell? ⟨b,o + n * 5 + 4,none⟩ = some (.slice xqa xat.length xca):=((bdrewp wr).cell (p:=⟨b,o + n * 5 + 4,none⟩) hb).trans k4
   have m0d:wr.drew.cell? ⟨b',o' + n * 5,none⟩ = some (.string (strOfNums yop)):=((bdrewp wr).cell (p:=⟨b',o' + n * 5,none⟩) hb').trans m0
   have m1d:wr.drew.cell? ⟨b',o' + n * 5 + 1,none⟩ = some (.string (strOfNums ynm)):=((bdrewp wr).cell (p:=⟨b',o' + n * 5 + 1,none⟩) hb').trans m1
   have m2d:wr.drew.cell? ⟨b',o' + n * 5 + 2,none⟩ = some (.slice yqi yins.length yci):=((bdrewp wr).cell (p:=⟨b',o' + n * 5 + 2,none⟩) hb').trans m2
   have m3d:wr.drew.cell? ⟨b',o' + n * 5 + 3,none⟩ = some (.slice yqo youts.length yco):=((bdrewp wr).cell (p:=⟨b',o' + n * 5 + 3,none⟩) hb').trans m3
   have m4d:wr.drew.cell? ⟨b',o' + n * 5 + 4,none⟩ = some (.slice yqa yat.length yca):=((bdrewp wr).cell (p:=⟨b',o' + n * 5 + 4,none⟩) hb').trans m4
   unfold noCells at CS
   simp only [strV] at CS
   go_wp2_with fail
   go_region_held3 (fun v => (∀ j,v.cell? ⟨w.heap.size,j,none⟩ = (#[.int .i64 aops,.string (strOfNums anm),.slice (some ⟨b,o,none⟩) anodes.length acn,.slice aqi ainits.length aci,.slice aqp ainp.length acp,.slice aqo aout.length aco]:Array Value)[j]?) ∧ (∀ j,v.cell? ⟨w.heap.size + 1,j,none⟩ = (#[.int .i64 aops,.string (strOfNums anm),.slice (some ⟨b',o',none⟩) bnodes.length bcn,.slice bqi binits.length bci,.slice bqp binp.length bcp,.slice bqo bout.length bco]:Array Value)[j]?) ∧ v.cell? ⟨b,o + n * 5,none⟩ = some (.string (strOfNums xop)) ∧ v.cell? ⟨b,o + n * 5 + 1,none⟩ = some (.string (strOfNums xnm)) ∧ v.cell? ⟨b,o + n * 5 + 2,none⟩ = some (.slice xqi xins.length xci) ∧ v.cell? ⟨b,o + n * 5 + 3,none⟩ = some (.slice xqo xouts.length xco) ∧ v.cell? ⟨b,o + n * 5 + 4,none⟩ = some (.slice xqa xat.length xca) ∧ v.cell? ⟨b',o' + n * 5,none⟩ = some (.string (strOfNums yop)) ∧ v.cell? ⟨b',o' + n * 5 + 1,none⟩ = some (.string (strOfNums ynm)) ∧ v.cell? ⟨b',o' + n * 5 + 2,none⟩ = some (.slice yqi yins.length yci) ∧ v.cell? ⟨b',o' + n * 5 + 3,none⟩ = some (.slice yqo youts.length yco) ∧ v.cell? ⟨b',o' + n * 5 + 4,none⟩ = some (.slice yqa yat.length yca)) (refine ⟨?_,?_,?_,?_,?_,?_,?_,?_,?_,?_,?_,?_⟩ <;> with_reducible assumption)
    ((go_at_call 34; (refine (uh CS _ (bl_tr (uh BW) (bdrewp _))).mono ?_; rintro e w5 ⟨rfl,hb5⟩; have bb:=bl_tr (bdrewp wr) hb5; have B5:=hide (bl_tr (uh HB) bb); have x1e:=((uh X1).below (uh B5)).cell; have x2e:=((uh X2).below (uh B5)).cell; have k0e:w5.cell? ⟨b,o + n * 5,none⟩ = some (.string (strOfNums xop)):=((bb).cell (p:=⟨b,o + n * 5,none⟩) hb).trans k0; have k1e:w5.cell? ⟨b,o + n * 5 + 1,none⟩ = some (.string (strOfNums xnm)):=((bb).cell (p:=⟨b,o + n * 5 + 1,none⟩) hb).trans k1; have k2e:w5.cell? ⟨b,o + n * 5 + 2,none⟩ = some (.slice xqi xins.length xci):=((bb).cell (p:=⟨b,o + n * 5 + 2,none⟩) hb).trans k2; have k3e:w5.cell? ⟨b,o + n * 5 + 3,none⟩ = some (.slice xqo xouts.length xco):=((bb).cell (p:=⟨b,o + n * 5 + 3,none⟩) hb).trans k3; have k4e:w5.cell? ⟨b,o + n * 5 + 4,none⟩ = some (.slice xqa xat.length xca):=((bb).cell (p:=⟨b,o + n * 5 + 4,none⟩) hb).trans k4; have m0e:w5.cell? ⟨b',o' + n * 5,none⟩ = some (.string (strOfNums yop)):=((bb).cell (p:=⟨b',o' + n * 5,none⟩) hb').trans m0; have m1e:w5.cell? ⟨b',o' + n * 5 + 1,none⟩ = some (.string (strOfNums ynm)):=((bb).cell (p:=⟨b',o' + n * 5 + 1,none⟩) hb').trans m1; have m2e:w5.cell? ⟨b',o' + n * 5 + 2,none⟩ = some (.slice yqi yins.length yci):=((bb).cell (p:=⟨b',o' + n * 5 + 2,none⟩) hb').trans m2; have m3e:w5.cell? ⟨b',o' + n * 5 + 3,none⟩ = some (.slice yqo youts.length yco):=((bb).cell (p:=⟨b',o' + n * 5 + 3,none⟩) hb').trans m3; have m4e:w5.cell? ⟨b',o' + n * 5 + 4,none⟩ = some (.slice yqa yat.length yca):=((bb).cell (p:=⟨b',o' + n * 5 + 4,none⟩) hb').trans m4; clear hb5 bb)))
   go_wp2_with fail
   go_roundw
   case rel => exact ⟨n + 1,by go_num,by omega,B5⟩
   case measure => simp [intOf]; omega
  ·have hi:¬ (n:Int) < (anodes.length:Int):=by omega
   have x1:=((uh X1).below (uh HB)).cell
   go_wp2_with fail
   clear x1
   have HB':=HB
   clear HB
   rename_i wq
   go_loopw [6] (fun iv wr => ∃ n:Nat,iv = .int .i64 n ∧ n ≤ ainits.length ∧ Hid (Below w2.heap.size w2 wr)) (fun iv _ => ainits.length - (intOf iv).toNat)
   case atStart => exact ⟨0,rfl,by omega,HB'⟩
   case round =>
    obtain ⟨n,rfl,hn,HB⟩:=hrel
    by_cases hlt:n < ainits.length
    ·have hlt2:n < binits.length:=by rw [← uh HL2]; exact hlt
     have hi:(n:Int) < (ainits.length:Int):=by omega
     have hi2:(n:Int) < (binits.length:Int):=by omega
     have BW:=hide (bl_tr (uh B0) (uh HB))
     have x1:=((uh X1).below (uh HB)).cell
     have x2:=((uh X2).below (uh HB)).cell
     have x1d:=((uh X1).below (bl_tr (uh HB) (bdrewp wr))).cell
     have x2d:=((uh X2).below (bl_tr (uh HB) (bdrewp wr))).cell
     obtain ⟨b,o,rfl,hb,hc⟩:=((uh R3).below (uh BW)).lies (by omega)
     obtain ⟨b',o',rfl,hb',hc'⟩:=((uh R4).below (uh BW)).lies (by omega)
     have hcx:=hc n hlt
     have hcy:=hc' n hlt2
     have CS:=hide (uh SI n hlt hlt2)
     have hnm:=congrArg Prod.fst (map_getD7 (z:=noInA) hlt hlt2 (uh HEI))
     unfold InA.d at hnm
     simp only at hnm
     clear hc hc' hlt2
     generalize ainits.getD n noInA = x at hcx CS hnm
     generalize binits.getD n noInA = y at hcy CS hnm
     obtain ⟨xnm,⟨xt1,xt2,xt3,xt4,xt5⟩,⟨xpd,xcd,xpf,xpc,xpi,xpk,xpb,xcb⟩⟩:=x
     obtain ⟨ynm,⟨yt1,yt2,yt3,yt4,yt5⟩,⟨ypd,ycd,ypf,ypc,ypi,ypk,ypb,ycb⟩⟩:=y
     simp only at hnm
     have tn:((strOfNums xnm).toList == (strOfNums ynm).toList) = true:=(by rw [hnm]; simp)
     have tn2:((strOfNums xnm).toList != (strOfNums ynm).toList) = false:=(by rw [hnm]; simp)
     have k0:wr.cell? ⟨b,o + n * 6,none⟩ = some (.string (strOfNums xnm)):=hcx 0 _ rfl
     have k1:wr.cell? ⟨b,o + n * 6 + 1,none⟩ = some (.int .i64 xt1):=hcx 1 _ rfl
     have k2:wr.cell? ⟨b,o + n * 6 + 2,none⟩ = some (.slice xpd xt2.length xcd):=hcx 2 _ rfl
     have k3:wr.cell? ⟨b,o + n * 6 + 3,none⟩ = some (.slice xpf xt3.length xpc):=hcx 3 _ rfl
     have k4:wr.cell? ⟨b,o + n * 6 + 4,none⟩ = some (.slice xpi xt4.length xpk):=hcx 4 _ rfl
     have k5:wr.cell? ⟨b,o + n * 6 + 5,none⟩ = some (.slice xpb xt5.length xcb):=hcx 5 _ rfl
     have m0:wr.cell? ⟨b',o' + n * 6,none⟩ = some (.string (strOfNums ynm)):=hcy 0 _ rfl
     have m1:wr.cell? ⟨b',o' + n * 6 + 1,none⟩ = some (.int .i64 yt1):=hcy 1 _ rfl
     have m2:wr.cell? ⟨b',o' + n * 6 + 2,none⟩ = some (.slice ypd yt2.length ycd):=hcy 2 _ rfl
     have m3:wr.cell? ⟨b',o' + n * 6 + 3,none⟩ = some (.slice ypf yt3.length ypc):=hcy 3 _ rfl
     have m4:wr.cell? ⟨b',o' + n * 6 + 4,none⟩ = some (.slice ypi yt4.length ypk):=hcy 4 _ rfl
     have m5:wr.cell? ⟨b',o' + n * 6 + 5,none⟩ = some (.slice ypb yt5.length ycb):=hcy 5 _ rfl
     clear hcx hcy
     have k0d:wr.drew.cell? ⟨b,o + n * 6,none⟩ = some (.string (strOfNums xnm)):=((bdrewp wr).cell (p:=⟨b,o + n * 6,none⟩) hb).trans k0
     have k1d:wr.drew.cell? ⟨b,o + n * 6 + 1,none⟩ = some (.int .i64 xt1):=((bdrewp wr).cell (p:=⟨b,o + n * 6 + 1,none⟩) hb).trans k1
     have k2d:wr.drew.cell? ⟨b,o + n * 6 + 2,none⟩ = some (.slice xpd xt2.length xcd):=((bdrewp wr).cell (p:=⟨b,o + n * 6 + 2,none⟩) hb).trans k2
     have k3d:wr.drew.cell? ⟨b,o + n * 6 + 3,none⟩ = some (.slice xpf xt3.length xpc):=((bdrewp wr).cell (p:=⟨b,o + n * 6 + 3,none⟩) hb).trans k3
     have k4d:wr.drew.cell? ⟨b,o + n * 6 + 4,none⟩ = some (.slice xpi xt4.length xpk):=((bdrewp wr).cell (p:=⟨b,o + n * 6 + 4,none⟩) hb).trans k4
     have k5d:wr.drew.cell? ⟨b,o + n * 6 + 5,none⟩ = some (.slice xpb xt5.length xcb):=((bdrewp wr).cell (p:=⟨b,o + n * 6 + 5,none⟩) hb).trans k5
     have m0d:wr.drew.cell? ⟨b',o' + n * 6,none⟩ = some (.string (strOfNums ynm)):=((bdrewp wr).cell (p:=⟨b',o' + n * 6,none⟩) hb').trans m0
     have m1d:wr.drew.cell? ⟨b',o' + n * 6 + 1,none⟩ = some (.int .i64 yt1):=((bdrewp wr).cell (p:=⟨b',o' + n * 6 + 1,none⟩) hb').trans m1
     have m2d:wr.drew.cell? ⟨b',o' + n * 6 + 2,none⟩ = some (.slice ypd yt2.length ycd):=((bdrewp wr).cell (p:=⟨b',o' + n * 6 + 2,none⟩) hb').trans m2
     have m3d:wr.drew.cell? ⟨b',o' + n * 6 + 3,none⟩ = some (.slice ypf yt3.length ypc):=((bdrewp wr).cell (p:=⟨b',o' + n * 6 + 3,none⟩) hb').trans m3
     have m4d:wr.drew.cell? ⟨b',o' + n * 6 + 4,none⟩ = some (.slice ypi yt4.length ypk):=((bdrewp wr).cell (p:=⟨b',o' + n * 6 + 4,none⟩) hb').trans m4
     have m5d:wr.drew.cell? ⟨b',o' + n * 6 + 5,none⟩ = some (.slice ypb yt5.length ycb):=((bdrewp wr).cell (p:=⟨b',o' + n * 6 + 5,none⟩) hb').trans m5
     unfold tenV tenCells at CS
     simp only at CS
     go_wp2_with fail
     go_region_held3 (fun v => (∀ j,v.cell? ⟨w.heap.size,j,none⟩ = (#[.int .i64 aops,.string (strOfNums anm),.slice aqn anodes.length acn,.slice (some ⟨b,o,none⟩) ainits.length aci,.slice aqp ainp.length acp,.slice aqo aout.length aco]:Array Value)[j]?) ∧ (∀ j,v.cell? ⟨w.heap.size + 1,j,none⟩ = (#[.int .i64 aops,.string (strOfNums anm),.slice bqn bnodes.length bcn,.slice (some ⟨b',o',none⟩) binits.length bci,.slice bqp binp.length bcp,.slice bqo bout.length bco]:Array Value)[j]?) ∧ v.cell? ⟨b,o + n * 6,none⟩ = some (.string (strOfNums xnm)) ∧ v.cell? ⟨b,o + n * 6 + 1,none⟩ = some (.int .i64 xt1) ∧ v.cell? ⟨b,o + n * 6 + 2,none⟩ = some (.slice xpd xt2.length xcd) ∧ v.cell? ⟨b,o + n * 6 + 3,none⟩ = some (.slice xpf xt3.length xpc) ∧ v.cell? ⟨b,o + n * 6 + 4,none⟩ = some (.slice xpi xt4.length xpk) ∧ v.cell? ⟨b,o + n * 6 + 5,none⟩ = some (.slice xpb xt5.length xcb) ∧ v.cell? ⟨b',o' + n * 6,none⟩ = some (.string (strOfNums ynm)) ∧ v.cell? ⟨b',o' + n * 6 + 1,none⟩ = some (.int .i64 yt1) ∧ v.cell? ⟨b',o' + n * 6 + 2,none⟩ = some (.slice ypd yt2.length ycd) ∧ v.cell? ⟨b',o' + n * 6 + 3,none⟩ = some (.slice ypf yt3.length ypc) ∧ v.cell? ⟨b',o' + n * 6 + 4,none⟩ = some (.slice ypi yt4.length ypk) ∧ v.cell? ⟨b',o' + n * 6 + 5,none⟩ = some (.slice ypb yt5.length ycb)) (refine ⟨?_,?_,?_,?_,?_,?_,?_,?_,?_,?_,?_,?_,?_,?_⟩ <;> with_reducible assumption)
      ((go_at_call 35; (refine (uh CS _ (bl_tr (uh BW) (bdrewp _))).mono ?_; rintro e w5 ⟨rfl,hb5⟩; have bb:=bl_tr (bdrewp wr) hb5; have B5:=hide (bl_tr (uh HB) bb); have x1e:=((uh X1).below (uh B5)).cell; have x2e:=((uh X2).below (uh B5)).cell; have k0e:w5.cell? ⟨b,o + n * 6,none⟩ = some (.string (strOfNums xnm)):=((bb).cell (p:=⟨b,o + n * 6,none⟩) hb).trans k0; have k1e:w5.cell? ⟨b,o + n * 6 + 1,none⟩ = some (.int .i64 xt1):=((bb).cell (p:=⟨b,o + n * 6 + 1,none⟩) hb).trans k1; have k2e:w5.cell? ⟨b,o + n * 6 + 2,none⟩ = some (.slice xpd xt2.length xcd):=((bb).cell (p:=⟨b,o + n * 6 + 2,none⟩) hb).trans k2; have k3e:w5.cell? ⟨b,o + n * 6 + 3,none⟩ = some (.slice xpf xt3.length xpc):=((bb).cell (p:=⟨b,o + n * 6 + 3,none⟩) hb).trans k3; have k4e:w5.cell? ⟨b,o + n * 6 + 4,none⟩ = some (.slice xpi xt4.length xpk):=((bb).cell (p:=⟨b,o + n * 6 + 4,none⟩) hb).trans k4; have k5e:w5.cell? ⟨b,o + n * 6 + 5,none⟩ = some (.slice xpb xt5.length xcb):=((bb).cell (p:=⟨b,o + n * 6 + 5,none⟩) hb).trans k5; have m0e:w5.cell? ⟨b',o' + n * 6,none⟩ = some (.string (strOfNums ynm)):=((bb).cell (p:=⟨b',o' + n * 6,none⟩) hb').trans m0; have m1e:w5.cell? ⟨b',o' + n * 6 + 1,none⟩ = some (.int .i64 yt1):=((bb).cell (p:=⟨b',o' + n * 6 + 1,none⟩) hb').trans m1; have m2e:w5.cell? ⟨b',o' + n * 6 + 2,none⟩ = some (.slice ypd yt2.length ycd):=((bb).cell (p:=⟨b',o' + n * 6 + 2,none⟩) hb').trans m2; have m3e:w5.cell? ⟨b',o' + n * 6 + 3,none⟩ = some (.slice ypf yt3.length ypc):=((bb).cell (p:=⟨b',o' + n * 6 + 3,none⟩) hb').trans m3; have m4e:w5.cell? ⟨b',o' + n * 6 + 4,none⟩ = some (.slice ypi yt4.length ypk):=((bb).cell (p:=⟨b',o' + n * 6 + 4,none⟩) hb').trans m4; have m5e:w5.cell? ⟨b',o' + n * 6 + 5,none⟩ = some (.slice ypb yt5.length ycb):=((bb).cell (p:=⟨b',o' + n * 6 + 5,none⟩) hb').trans m5; clear hb5 bb)))
     go_wp2_with fail
     go_roundw
     case rel => exact ⟨n + 1,by go_num,by omega,B5⟩
     case measure => simp [intOf]; omega
    ·have hi2:¬ (n:Int) < (ainits.length:Int):=by omega
     have x1:=((uh X1).below (uh HB)).cell
     go_wp2_with fail
     go_ret
     exact ⟨rfl,bl_tr (uh B0) (uh HB)⟩
end Go.Proofs.YtmdlaahdgjegcaaGreat
