import Derived.Test.YtmdlaahdgjegcaaGreatV37
set_option maxRecDepth 100000
set_option maxHeartbeats 8000000
namespace Go.Proofs.YtmdlaahdgjegcaaGreat
open Go.RowKit
set_option linter.unusedVariables false
theorem rattr_true (a b:AtA) {B C:Nat} (w:World) (h:AtIn B w a) (k:AtIn C w b) (he:a.d = b.d) :
  Calls Tryz.prog 75 #[.agg (atCells a).toArray,.agg (atCells b).toArray] w fun e w' => e = .returned (.bool true) ∧ Below w.heap.size w w':=by
 obtain ⟨nm,kd,f,i,s,T,A,fl,qf,cf,is,qi,ci⟩:=a
 obtain ⟨nm',kd',f',i',s',T',A',fl',qf',cf',is',qi',ci'⟩:=b
 unfold AtA.d at he
 simp only [Prod.mk.injEq] at he
 obtain ⟨rfl,rfl,rfl,rfl,rfl,rfl,rfl,rfl⟩:=he
 obtain ⟨_,_,_,_,_,h6,⟨h7,_⟩,h8,_⟩:=h
 obtain ⟨_,_,_,_,_,k6,⟨k7,_⟩,k8,_⟩:=k
 simp only at h6 h7 h8 k6 k7 k8
 have ST:=hide (fun v (hv:Below w.heap.size w v) => rten_same7 T T A A' v (h6.1.below hv) (k6.1.below hv))
 rw [show decide (T = T) = true from decide_eq_true rfl] at ST
 have A2:=hide h7
 have A3:=hide h8
 have E2:=hide k7
 have E3:=hide k8
 have nf:=h7.len
 have ni:=h8.len
 clear h6 h7 h8 k6 k7 k8
 obtain ⟨ty,ds,fs,tis,bs⟩:=T
 obtain ⟨pd,cd,pf,pcf,pi,pci,pb,cb⟩:=A
 obtain ⟨pd',cd',pf',pcf',pi',pci',pb',cb'⟩:=A'
 unfold atCells
 simp only [tenCells,List.cons_append,List.nil_append,strV]
 unfold tenV tenCells at ST
 simp only at ST
 have t1:((strOfNums nm).toList == (strOfNums nm).toList) = true:=by simp
 have t2:((strOfNums s).toList == (strOfNums s).toList) = true:=by simp
 go_enter Tryz.func75,Tryz.ntmps75
 go_wp2_with fail
 refine (uh ST _ (al27 _ _ _)).mono ?_
 rintro e w1 ⟨rfl,hb⟩
 have X1:=hide (Box.below (Box.alloc (Box.new w #[.string (strOfNums nm),.int .i64 kd,.int .u32 f,.int .i64 i,.string (strOfNums s),.int .i64 ty,.slice pd ds.length cd,.slice pf fs.length pcf,.slice pi tis.length pci,.slice pb bs.length cb,.slice qf fl.length cf,.slice qi is.length ci] 86) _) hb)
 have X2:=hide (Box.below (Box.new (w.alloc _) #[.string (strOfNums nm),.int .i64 kd,.int .u32 f,.int .i64 i,.string (strOfNums s),.int .i64 ty,.slice pd' ds.length cd',.slice pf' fs.length pcf',.slice pi' tis.length pci',.slice pb' bs.length cb',.slice qf' fl.length cf',.slice qi' is.length ci'] 86) hb)
 simp only [alloc_size6] at X2
 have B0:=hide (bl_tr (al27 _ _ _) hb)
 have x1:=(uh X1).cell
 have x2:=(uh X2).cell
 clear hb X1 X2 t1 t2
 go_wp2_with fail
 go_loopw [5] (fun iv wr => ∃ n:Nat,iv = .int .i64 n ∧ n ≤ fl.length ∧ ∃ m,wr = w1.drewN m) (fun iv _ => fl.length - (intOf iv).toNat)
 case atStart => exact ⟨0,rfl,by omega,0,rfl⟩
 case round =>
  obtain ⟨n0,rfl,hn0,m0,rfl⟩:=hrel
  by_cases hlt:n0 < fl.length
  ·obtain ⟨b,o,rfl,hb,hc⟩:=((uh A2).below (uh B0)).lies (by omega)
   obtain ⟨b',o',rfl,hb',hc'⟩:=((uh E2).below (uh B0)).lies (by omega)
   have hi:(n0:Int) < (fl.length:Int):=by omega
   have k1:=hc n0 hlt
   have k2:=hc' n0 hlt
   clear hc hc'
   generalize fl.getD n0 default = x at k1 k2
   go_wp2_with fail
   go_quiet (fail)
   go_wp2_with fail
   go_roundw
   case rel => exact ⟨n0 + 1,by go_num,by omega,_,rfl⟩
   case measure => simp [intOf]; omega
  ·have hi:¬ (n0:Int) < (fl.length:Int):=by omega
   go_wp2_with fail
   go_loopw [6] (fun iv wr => ∃ n:Nat,iv = .int .i64 n ∧ n ≤ is.length ∧ ∃ m,wr = w1.drewN m) (fun iv _ => is.length - (intOf iv).toNat)
   case atStart => exact ⟨0,rfl,by omega,_,rfl⟩
   case round =>
    obtain ⟨n1,rfl,hn1,m1,rfl⟩:=hrel
    by_cases hlt1:n1 < is.length
    ·obtain ⟨b,o,rfl,hb,hc⟩:=((uh A3).below (uh B0)).lies (by omega)
     obtain ⟨b',o',rfl,hb',hc'⟩:=((uh E3).below (uh B0)).lies (by omega)
     have hi1:(n1:Int) < (is.length:Int):=by omega
     have k1:=hc n1 hlt1
     have k2:=hc' n1 hlt1
     clear hc hc'
     generalize is.getD n1 default = x at k1 k2
     go_wp2_with fail
     go_quiet (fail)
     go_wp2_with fail
     go_roundw
     case rel => exact ⟨n1 + 1,by go_num,by omega,_,rfl⟩
     case measure => simp [intOf]; omega
    ·have hi1:¬ (n1:Int) < (is.length:Int):=by omega
     go_wp2_with fail
     go_ret
     exact ⟨rfl,bw_drew (uh B0) _⟩
theorem rnames7_true (p q:Option Addr) (cap cap':Nat) (xs:List Str) (w:World) (h1:Ls strV w p cap xs) (h2:Ls strV w q cap' xs) (b1:∀ s ∈ xs,isB s) :
  Calls Tryz.prog 74 #[.slice p xs.length cap,.slice q xs.length cap'] w fun e w' => e = .returned (.bool true) ∧ Below w.heap.size w w':=by
 have h:=rnames7_any p q cap cap' xs xs w h1 h2 b1 b1
 rw [show decide (xs = xs) = true from decide_eq_true rfl] at h
 exact h
theorem map_getD7 {α β:Type} {f:α → β} {z:α} {xs ys:List α} {n:Nat} (h1:n < xs.length) (h2:n < ys.length) (e:xs.map f = ys.map f):f (xs.getD n z) = f (ys.getD n z):=by
 have h:=congrArg (fun l => l[n]?) e
 simp only [List.getElem?_map,List.getElem?_eq_getElem h1,List.getElem?_eq_getElem h2,Option.map_some,Option.some.injEq] at h
 rw [List.getD_eq_getElem?_getD,List.getD_eq_getElem?_getD,List.getElem?_eq_getElem h1,List.getElem?_eq_getElem h2]
 exact h
theorem AtIn.bel {B:Nat} {w w':World} {a:AtA} (h:AtIn B w a) (hb:Below w.heap.size w w'):AtIn B w' a:=h.kept (TS:=tenTS) (fun t h => h) (Kept.below hb)
theorem NoIn.bel {B:Nat} {w w':World} {a:NoA} (h:NoIn B w a) (hb:Below w.heap.size w w'):NoIn B w' a:=h.kept (TS:=nodeTS) (fun t h => h) (Kept.below hb)
theorem rnode_true (a b:NoA) {B C:Nat} (w:World) (h:NoIn B w a) (k:NoIn C w b) (he:a.d = b.d) :
  Calls Tryz.prog 34 #[.agg (noCells a).toArray,.agg (noCells b).toArray] w fun e w' => e = .returned (.bool true) ∧ Below w.heap.size w w':=by
 obtain ⟨aop,anm,ains,aqi,aci,aouts,aqo,aco,aat,aqa,aca⟩:=a
 obtain ⟨bop,bnm,bins,bqi,bci,bouts,bqo,bco,bat,bqa,bca⟩:=b
 unfold NoA.d at he
 simp only [Prod.mk.injEq] at he
 obtain ⟨rfl,rfl,rfl,rfl,he⟩:=he
 obtain ⟨_,_,⟨h3,h4,_⟩,⟨h6,h7,_⟩,h9,h10,_⟩:=h
 obtain ⟨_,_,⟨_,k4,_⟩,⟨_,k7,_⟩,k9,k10,_⟩:=k
 simp only at h3 h4 h6 h7 h9 h10 k4 k7 k9 k10
 have hlen:aat.length = bat.length:=by have:=congrArg List.length he; simpa using this
 have S1:=hide (fun v (hv:Below w.heap.size w v) => rnames7_true aqi bqi aci bci ains v (h4.below hv) (k4.below hv) h3)
 have S2:=hide (fun v (hv:Below w.heap.size w v) => rnames7_true aqo bqo aco bco aouts v (h7.below hv) (k7.below hv) h6)
 have SA:=hide (fun n (h1:n < aat.length) (h2:n < bat.length) v (hv:Below w.heap.size w v) => rattr_true (aat.getD n noAtA) (bat.getD n noAtA) v ((h9 _ (getD_mem7 h1)).bel hv) ((k9 _ (getD_mem7 h2)).bel hv) (map_getD7 h1 h2 he))
 have R1:=hide h10
 have R2:=hide k10
 have nl:=h10.len
 have nl2:=k10.len
 have HL:=hide hlen
 have tl:((aat.length:Int) != (bat.length:Int)) = false:=bneFp (by omega)
 clear h3 h4 h6 h7 h9 h10 k4 k7 k9 k10 he hlen
 unfold noCells
 simp only [strV]
 have t1:((strOfNums aop).toList == (strOfNums aop).toList) = true:=by simp
 have t2:((strOfNums anm).toList == (strOfNums anm).toList) = true:=by simp
 have BA:=hide (al27 w (Obj.cells #[.string (strOfNums aop),.string (strOfNums anm),.slice aqi ains.length aci,.slice aqo aouts.length aco,.slice aqa aat.length aca] 75) (Obj.cells #[.string (strOfNums aop),.string (strOfNums anm),.slice bqi ains.length bci,.slice bqo aouts.length bco,.slice bqa bat.length bca] 75))
 have X0:=hide (Box.alloc (Box.new w #[.string (strOfNums aop),.string (strOfNums anm),.slice aqi ains.length aci,.slice aqo aouts.length aco,.slice aqa aat.length aca] 75) (Obj.cells #[.string (strOfNums aop),.string (strOfNums anm),.slice bqi ains.length bci,.slice bqo aouts.length bco,.slice bqa bat.length bca] 75))
 have Z0:Hid (Box ((w.alloc (Obj.cells #[.string (strOfNums aop),.string (strOfNums anm),.slice aqi ains.length aci,.slice aqo aouts.length aco,.slice aqa aat.length aca] 75)).alloc (Obj.cells #[.string (strOfNums aop),.string (strOfNums anm),.slice bqi ains.length bci,.slice bqo aouts.length bco,.slice bqa bat.length bca] 75)) (w.heap.size + 1) #[.string (strOfNums aop),.string (strOfNums anm),.slice bqi ains.length bci,.slice bqo aouts.length bco,.slice bqa bat.length bca] 75):=hide (by have h:=Box.new (w.alloc (Obj.cells #[.string (strOfNums aop),.string (strOfNums anm),.slice aqi ains.length aci,.slice aqo aouts.length aco,.slice aqa aat.length aca] 75)) #[.string (strOfNums aop),.string (strOfNums anm),.slice bqi ains.length bci,.slice bqo aouts.length bco,.slice bqa bat.length bca] 75; rw [alloc_size6] at h; exact h)
 go_enter Tryz.func34,Tryz.ntmps34
 go_wp2_with fail
 refine (uh S1 _ (uh BA)).mono ?_
 rintro e w1 ⟨rfl,hb⟩
 have B1:=hide (bl_tr (uh BA) hb)
 have X1':=hide ((uh X0).below hb)
 have Z1':=hide ((uh Z0).below hb)
 have x1:=(uh X1').cell
 have x2:=(uh Z1').cell
 clear hb
 go_wp2_with fail
 refine (uh S2 _ (uh B1)).mono ?_
 rintro e w2 ⟨rfl,hb⟩
 have B0:=hide (bl_tr (uh B1) hb)
 have X1:=hide ((uh X1').below hb)
 have X2:=hide ((uh Z1').below hb)
 clear hb x1 x2
 have x1:=(uh X1).cell
 have x2:=(uh X2).cell
 go_wp2_with fail
 clear x1 x2 tl t1 t2
 go_loopw [5] (fun iv wr => ∃ n:Nat,iv = .int .i64 n ∧ n ≤ aat.length ∧ Hid (Below w2.heap.size w2 wr)) (fun iv _ => aat.length - (intOf iv).toNat)
 case atStart => exact ⟨0,rfl,by omega,hide (Below.refl _ _)⟩
 case round =>
  obtain ⟨n,rfl,hn,HB⟩:=hrel
  by_cases hlt:n < aat.length
  ·have hlt2:n < bat.length:=by rw [← uh HL]; exact hlt
   have hi:(n:Int) < (aat.length:Int):=by omega
   have hi2:(n:Int) < (bat.length:Int):=by omega
   have BW:=hide (bl_tr (uh B0) (uh HB))
   have x1:=((uh X1).below (uh HB)).cell
   have x2:=((uh X2).below (uh HB)).cell
   have x1d:=((uh X1).below (bl_tr (uh HB) (bdrewp wr))).cell
   have x2d:=((uh X2).below (bl_tr (uh HB) (bdrewp wr))).cell
   obtain ⟨b,o,rfl,hb,hc⟩:=((uh R1).below (uh BW)).lies (by omega)
   obtain ⟨b',o',rfl,hb',hc'⟩:=((uh R2).below (uh BW)).lies (by omega)
   have hcx:=hc n hlt
   have hcy:=hc' n hlt2
   have CS:=hide (uh SA n hlt hlt2)
   clear hc hc' hlt2
   generalize aat.getD n noAtA = x at hcx CS
   generalize bat.getD n noAtA = y at hcy CS
   obtain ⟨xnm,xkd,xf,xi,xs,⟨xt1,xt2,xt3,xt4,xt5⟩,⟨xpd,xcd,xpf,xpc,xpi,xpk,xpb,xcb⟩,xfl,xqf,xcf,xis,xqi,xci⟩:=x
   obtain ⟨ynm,ykd,yf,yi,ys,⟨yt1,yt2,yt3,yt4,yt5⟩,⟨ypd,ycd,ypf,ypc,ypi,ypk,ypb,ycb⟩,yfl,yqf,ycf,yis,yqi,yci⟩:=y
   have k0:wr.cell? ⟨b,o + n * 12,none⟩ = some (.string (strOfNums xnm)):=hcx 0 _ rfl
   have k1:wr.cell? ⟨b,o + n * 12 + 1,none⟩ = some (.int .i64 xkd):=hcx 1 _ rfl
   have k2:wr.cell? ⟨b,o + n * 12 + 2,none⟩ = some (.int .u32 xf):=hcx 2 _ rfl
   have k3:wr.cell? ⟨b,o + n * 12 + 3,none⟩ = some (.int .i64 xi):=hcx 3 _ rfl
   have k4:wr.cell? ⟨b,o + n * 12 + 4,none⟩ = some (.string (strOfNums xs)):=hcx 4 _ rfl
   have k5:wr.cell? ⟨b,o + n * 12 + 5,none⟩ = some (.int .i64 xt1):=hcx 5 _ rfl
   have k6:wr.cell? ⟨b,o + n * 12 + 6,none⟩ = some (.slice xpd xt2.length xcd):=hcx 6 _ rfl
   have k7:wr.cell? ⟨b,o + n * 12 + 7,none⟩ = some (.slice xpf xt3.length xpc):=hcx 7 _ rfl
   have k8:wr.cell? ⟨b,o + n * 12 + 8,none⟩ = some (.slice xpi xt4.length xpk):=hcx 8 _ rfl
   have k9:wr.cell? ⟨b,o + n * 12 + 9,none⟩ = some (.slice xpb xt5.length xcb):=hcx 9 _ rfl
   have k10:wr.cell? ⟨b,o + n * 12 + 10,none⟩ = some (.slice xqf xfl.length xcf):=hcx 10 _ rfl
   have k11:wr.cell? ⟨b,o + n * 12 + 11,none⟩ = some (.slice xqi xis.length xci):=hcx 11 _ rfl
   have m0:wr.cell? ⟨b',o' + n * 12,none⟩ = some (.string (strOfNums ynm)):=hcy 0 _ rfl
   have m1:wr.cell? ⟨b',o' + n * 12 + 1,none⟩ = some (.int .i64 ykd):=hcy 1 _ rfl
   have m2:wr.cell? ⟨b',o' + n * 12 + 2,none⟩ = some (.int .u32 yf):=hcy 2 _ rfl
   have m3:wr.cell? ⟨b',o' + n * 12 + 3,none⟩ = some (.int .i64 yi):=hcy 3 _ rfl
   have m4:wr.cell? ⟨b',o' + n * 12 + 4,none⟩ = some (.string (strOfNums ys)):=hcy 4 _ rfl
   have m5:wr.cell? ⟨b',o' + n * 12 + 5,none⟩ = some (.int .i64 yt1):=hcy 5 _ rfl
   have m6:wr.cell? ⟨b',o' + n * 12 + 6,none⟩ = some (.slice ypd yt2.length ycd):=hcy 6 _ rfl
   have m7:wr.cell? ⟨b',o' + n * 12 + 7,none⟩ = some (.slice ypf yt3.length ypc):=hcy 7 _ rfl
   have m8:wr.cell? ⟨b',o' + n * 12 + 8,none⟩ = some (.slice ypi yt4.length ypk):=hcy 8 _ rfl
   have m9:wr.cell? ⟨b',o' + n * 12 + 9,none⟩ = some (.slice ypb yt5.length ycb):=hcy 9 _ rfl
   have m10:wr.cell? ⟨b',o' + n * 12 + 10,none⟩ = some (.slice yqf yfl.length ycf):=hcy 10 _ rfl
   have m11:wr.cell? ⟨b',o' + n * 12 + 11,none⟩ = some (.slice yqi yis.length yci):=hcy 11 _ rfl
   clear hcx hcy
   have k0d:wr.drew.cell? ⟨b,o + n * 12,none⟩ = some (.string (strOfNums xnm)):=((bdrewp wr).cell (p:=⟨b,o + n * 12,none⟩) hb).trans k0
   have k1d:wr.drew.cell? ⟨b,o + n * 12 + 1,none⟩ = some (.int .i64 xkd):=((bdrewp wr).cell (p:=⟨b,o + n * 12 + 1,none⟩) hb).trans k1
   have k2d:wr.drew.cell? ⟨b,o + n * 12 + 2,none⟩ = some (.int .u32 xf):=((bdrewp wr).cell (p:=⟨b,o + n * 12 + 2,none⟩) hb).trans k2
   have k3d:wr.drew.cell? ⟨b,o + n * 12 + 3,none⟩ = some (.int .i64 xi):=((bdrewp wr).cell (p:=⟨b,o + n * 12 + 3,none⟩) hb).trans k3
   have k4d:wr.drew.cell? ⟨b,o + n * 12 + 4,none⟩ = some (.string (strOfNums xs)):=((bdrewp wr).cell (p:=⟨b,o + n * 12 + 4,none⟩) hb).trans k4
   have k5d:wr.drew.cell? ⟨b,o + n * 12 + 5,none⟩ = some (.int .i64 xt1):=((bdrewp wr).cell (p:=⟨b,o + n * 12 + 5,none⟩) hb).trans k5
   have k6d:wr.drew.cell? ⟨b,o + n * 12 + 6,none⟩ = some (.slice xpd xt2.length xcd):=((bdrewp wr).cell (p:=⟨b,o + n * 12 + 6,none⟩) hb).trans k6
   have k7d:wr.drew.cell? ⟨b,o + n * 12 + 7,none⟩ = some (.slice xpf xt3.length xpc):=((bdrewp wr).cell (p:=⟨b,o + n * 12 + 7,none⟩) hb).trans k7
   have k8d:wr.drew.cell? ⟨b,o + n * 12 + 8,none⟩ = some (.slice xpi xt4.length xpk):=((bdrewp wr).cell (p:=⟨b,o + n * 12 + 8,none⟩) hb).trans k8
   have k9d:wr.drew.cell? ⟨b,o + n * 12 + 9,none⟩ = some (.slice xpb xt5.length xcb):=((bdrewp wr).cell (p:=⟨b,o + n * 12 + 9,none⟩) hb).trans k9
   have k10d:wr.drew.cell? ⟨b,o + n * 12 + 10,none⟩ = some (.slice xqf xfl.length xcf):=((bdrewp wr).cell (p:=⟨b,o + n * 12 + 10,none⟩) hb).trans k10
   have k11d:wr.drew.cell? ⟨b,o + n * 12 + 11,none⟩ = some (.slice xqi xis.length xci):=((bdrewp wr).cell (p:=⟨b,o + n * 12 + 11,none⟩) hb).trans k11
   have m0d:wr.drew.cell? ⟨b',o' + n * 12,none⟩ = some (.string (strOfNums ynm)):=((bdrewp wr).cell (p:=⟨b',o' + n * 12,none⟩) hb').trans m0
   have m1d:wr.drew.cell? ⟨b',o' + n * 12 + 1,none⟩ = some (.int .i64 ykd):=((bdrewp wr).cell (p:=⟨b',o' + n * 12 + 1,none⟩) hb').trans m1
   have m2d:wr.drew.cell? ⟨b',o' + n * 12 + 2,none⟩ = some (.int .u32 yf):=((bdrewp wr).cell (p:=⟨b',o' + n * 12 + 2,none⟩) hb').trans m2
   have m3d:wr.drew.cell? ⟨b',o' + n * 12 + 3,none⟩ = some (.int .i64 yi):=((bdrewp wr).cell (p:=⟨b',o' + n * 12 + 3,none⟩) hb').trans m3
   have m4d:wr.drew.cell? ⟨b',o' + n * 12 + 4,none⟩ = some (.string (strOfNums ys)):=((bdrewp wr).cell (p:=⟨b',o' + n * 12 + 4,none⟩) hb').trans m4
   have m5d:wr.drew.cell? ⟨b',o' + n * 12 + 5,none⟩ = some (.int .i64 yt1):=((bdrewp wr).cell (p:=⟨b',o' + n * 12 + 5,none⟩) hb').trans m5
   have m6d:wr.drew.cell? ⟨b',o' + n * 12 + 6,none⟩ = some (.slice ypd yt2.length ycd):=((bdrewp wr).cell (p:=⟨b',o' + n * 12 + 6,none⟩) hb').trans m6
   have m7d:wr.drew.cell? ⟨b',o' + n * 12 + 7,none⟩ = some (.slice ypf yt3.length ypc):=((bdrewp wr).cell (p:=⟨b',o' + n * 12 + 7,none⟩) hb').trans m7
   have m8d:wr.drew.cell? ⟨b',o' + n * 12 + 8,none⟩ = some (.slice ypi yt4.length ypk):=((bdrewp wr).cell (p:=⟨b',o' + n * 12 + 8,none⟩) hb').trans m8
   have m9d:wr.drew.cell? ⟨b',o' + n * 12 + 9,none⟩ = some (.slice ypb yt5.length ycb):=((bdrewp wr).cell (p:=⟨b',o' + n * 12 + 9,none⟩) hb').trans m9
   have m10d:wr.drew.cell? ⟨b',o' + n * 12 + 10,none⟩ = some (.slice yqf yfl.length ycf):=((bdrewp wr).cell (p:=⟨b',o' + n * 12 + 10,none⟩) hb').trans m10
   have m11d:wr.drew.cell? ⟨b',o' + n * 12 + 11,none⟩ = some (.slice yqi yis.length yci):=((bdrewp wr).cell (p:=⟨b',o' + n * 12 + 11,none⟩) hb').trans m11
   unfold atCells at CS
   simp only [tenCells,List.cons_append,List.nil_append,strV] at CS
   go_wp2_with fail
   go_region_held3 (fun v => (∀ j,v.cell? ⟨w.heap.size,j,none⟩ = (#[.string (strOfNums aop),.string (strOfNums anm),.slice aqi ains.length aci,.slice aqo aouts.length aco,.slice (some ⟨b,o,none⟩) aat.length aca]:Array Value)[j]?) ∧ (∀ j,v.cell? ⟨w.heap.size + 1,j,none⟩ = (#[.string (strOfNums aop),.string (strOfNums anm),.slice bqi ains.length bci,.slice bqo aouts.length bco,.slice (some ⟨b',o',none⟩) bat.length bca]:Array Value)[j]?) ∧ v.cell? ⟨b,o + n * 12,none⟩ = some (.string (strOfNums xnm)) ∧ v.cell? ⟨b,o + n * 12 + 1,none⟩ = some (.int .i64 xkd) ∧ v.cell? ⟨b,o + n * 12 + 2,none⟩ = some (.int .u32 xf) ∧ v.cell? ⟨b,o + n * 12 + 3,none⟩ = some (.int .i64 xi) ∧ v.cell? ⟨b,o + n * 12 + 4,none⟩ = some (.string (strOfNums xs)) ∧ v.cell? ⟨b,o + n * 12 + 5,none⟩ = some (.int .i64 xt1) ∧ v.cell? ⟨b,o + n * 12 + 6,none⟩ = some (.slice xpd xt2.length xcd) ∧ v.cell? ⟨b,o + n * 12 + 7,none⟩ = some (.slice xpf xt3.length xpc) ∧ v.cell? ⟨b,o + n * 12 + 8,none⟩ = some (.slice xpi xt4.length xpk) ∧ v.cell? ⟨b,o + n * 12 + 9,none⟩ = some (.slice xpb xt5.length xcb) ∧ v.cell? ⟨b,o + n * 12 + 10,none⟩ = some (.slice xqf xfl.length xcf) ∧ v.cell? ⟨b,o + n * 12 + 11,none⟩ = some (.slice xqi xis.length xci) ∧ v.cell? ⟨b',o' + n * 12,none⟩ = some (.string (strOfNums ynm)) ∧ v.cell? ⟨b',o' + n * 12 + 1,none⟩ = some (.int .i64 ykd) ∧ v.cell? ⟨b',o' + n * 12 + 2,none⟩ = some (.int .u32 yf) ∧ v.cell? ⟨b',o' + n * 12 + 3,none⟩ = some (.int .i64 yi) ∧ v.cell? ⟨b',o' + n * 12 + 4,none⟩ = some (.string (strOfNums ys)) ∧ v.cell? ⟨b',o' + n * 12 + 5,none⟩ = some (.int .i64 yt1) ∧ v.cell? ⟨b',o' + n * 12 + 6,none⟩ = some (.slice ypd yt2.length ycd) ∧ v.cell? ⟨b',o' + n * 12 + 7,none⟩ = some (.slice ypf yt3.length ypc) ∧ v.cell? ⟨b',o' + n * 12 + 8,none⟩ = some (.slice ypi yt4.length ypk) ∧ v.cell? ⟨b',o' + n * 12 + 9,none⟩ = some (.slice ypb yt5.length ycb) ∧ v.cell? ⟨b',o' + n * 12 + 10,none⟩ = some (.slice yqf yfl.length ycf) ∧ v.cell? ⟨b',o' + n * 12 + 11,none⟩ = some (.slice yqi yis.length yci)) (refine ⟨?_,?_,?_,?_,?_,?_,?_,?_,?_,?_,?_,?_,?_,?_,?_,?_,?_,?_,?_,?_,?_,?_,?_,?_,?_,?_⟩ <;> with_reducible assumption)
    ((go_at_call 75; (refine (uh CS _ (bl_tr (uh BW) (bdrewp _))).mono ?_; rintro e w5 ⟨rfl,hb5⟩; have bb:=bl_tr (bdrewp wr) hb5; have B5:=hide (bl_tr (uh HB) bb); have x1e:=((uh X1).below (uh B5)).cell; have x2e:=((uh X2).below (uh B5)).cell; have k0e:w5.cell? ⟨b,o + n * 12,none⟩ = some (.string (strOfNums xnm)):=((bb).cell (p:=⟨b,o + n * 12,none⟩) hb).trans k0; have k1e:w5.cell? ⟨b,o + n * 12 + 1,none⟩ = some (.int .i64 xkd):=((bb).cell (p:=⟨b,o + n * 12 + 1,none⟩) hb).trans k1; have k2e:w5.cell? ⟨b,o + n * 12 + 2,none⟩ = some (.int .u32 xf):=((bb).cell (p:=⟨b,o + n * 12 + 2,none⟩) hb).trans k2; have k3e:w5.cell? ⟨b,o + n * 12 + 3,none⟩ = some (.int .i64 xi):=((bb).cell (p:=⟨b,o + n * 12 + 3,none⟩) hb).trans k3; have k4e:w5.cell? ⟨b,o + n * 12 + 4,none⟩ = some (.string (strOfNums xs)):=((bb).cell (p:=⟨b,o + n * 12 + 4,none⟩) hb).trans k4; have k5e:w5.cell? ⟨b,o + n * 12 + 5,none⟩ = some (.int .i64 xt1):=((bb).cell (p:=⟨b,o + n * 12 + 5,none⟩) hb).trans k5; have k6e:w5.cell? ⟨b,o + n * 12 + 6,none⟩ = some (.slice xpd xt2.length xcd):=((bb).cell (p:=⟨b,o + n * 12 + 6,none⟩) hb).trans k6; have k7e:w5.cell? ⟨b,o + n * 12 + 7,none⟩ = some (.slice xpf xt3.length xpc):=((bb).cell (p:=⟨b,o + n * 12 + 7,none⟩) hb).trans k7; have k8e:w5.cell? ⟨b,o + n * 12 + 8,none⟩ = some (.slice xpi xt4.length xpk):=((bb).cell (p:=⟨b,o + n * 12 + 8,none⟩) hb).trans k8; have k9e:w5.cell? ⟨b,o + n * 12 + 9,none⟩ = some (.slice xpb xt5.length xcb):=((bb).cell (p:=⟨b,o + n * 12 + 9,none⟩) hb).trans k9; have k10e:w5.cell? ⟨b,o + n * 12 + 10,none⟩ = some (.slice xqf xfl.length xcf):=((bb).cell (p:=⟨b,o + n * 12 + 10,none⟩) hb).trans k10; have k11e:w5.cell? ⟨b,o + n * 12 + 11,none⟩ = some (.slice xqi xis.length xci):=((bb).cell (p:=⟨b,o + n * 12 + 11,none⟩) hb).trans k11; have m0e:w5.cell? ⟨b',o' + n * 12,none⟩ = some (.string (strOfNums ynm)):=((bb).cell (p:=⟨b',o' + n * 12,none⟩) hb').trans m0; have m1e:w5.cell? ⟨b',o' + n * 12 + 1,none⟩ = some (.int .i64 ykd):=((bb).cell (p:=⟨b',o' + n * 12 + 1,none⟩) hb').trans m1; have m2e:w5.cell? ⟨b',o' + n * 12 + 2,none⟩ = some (.int .u32 yf):=((bb).cell (p:=⟨b',o' + n * 12 + 2,none⟩) hb').trans m2; have m3e:w5.cell? ⟨b',o' + n * 12 + 3,none⟩ = some (.int .i64 yi):=((bb).cell (p:=⟨b',o' + n * 12 + 3,none⟩) hb').trans m3; have m4e:w5.cell? ⟨b',o' + n * 12 + 4,none⟩ = some (.string (strOfNums ys)):=((bb).cell (p:=⟨b',o' + n * 12 + 4,none⟩) hb').trans m4; have m5e:w5.cell? ⟨b',o' + n * 12 + 5,none⟩ = some (.int .i64 yt1):=((bb).cell (p:=⟨b',o' + n * 12 + 5,none⟩) hb').trans m5; have m6e:w5.cell? ⟨b',o' + n * 12 + 6,none⟩ = some (.slice ypd yt2.length ycd):=((bb).cell (p:=⟨b',o' + n * 12 + 6,none⟩) hb').trans m6; have m7e:w5.cell? ⟨b',o' + n * 12 + 7,none⟩ = some (.slice ypf yt3.length ypc):=((bb).cell (p:=⟨b',o' + n * 12 + 7,none⟩) hb').trans m7; have m8e:w5.cell? ⟨b',o' + n * 12 + 8,none⟩ = some (.slice ypi yt4.length ypk):=((bb).cell (p:=⟨b',o' + n * 12 + 8,none⟩) hb').trans m8; have m9e:w5.cell? ⟨b',o' + n * 12 + 9,none⟩ = some (.slice ypb yt5.length ycb):=((bb).cell (p:=⟨b',o' + n * 12 + 9,none⟩) hb').trans m9; have m10e:w5.cell? ⟨b',o' + n * 12 + 10,none⟩ = some (.slice yqf yfl.length ycf):=((bb).cell (p:=⟨b',o' + n * 12 + 10,none⟩) hb').trans m10; have m11e:w5.cell? ⟨b',o' + n * 12 + 11,none⟩ = some (.slice yqi yis.length yci):=((bb).cell (p:=⟨b',o' + n * 12 + 11,none⟩) hb').trans m11; clear hb5 bb)))
   go_wp2_with fail
   go_roundw
   case rel => exact ⟨n + 1,by go_num,by omega,B5⟩
   case measure => simp [intOf]; omega
  ·have hi:¬ (n:Int) < (aat.length:Int):=by omega
   have x1:=((uh X1).below (uh HB)).cell
   go_wp2_with fail
   go_ret
   exact ⟨rfl,bl_tr (uh B0) (uh HB)⟩
end Go.Proofs.YtmdlaahdgjegcaaGreat
