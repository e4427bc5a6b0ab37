import Derived.Test.YtbmmcbagdomonaaGreatV33
set_option maxRecDepth 100000
set_option maxHeartbeats 40000000
namespace Go.Proofs.YtbmmcbagdomonaaGreat
open Go.RowKit
set_option linter.unusedVariables false
set_option linter.unusedSimpArgs false
def SetP (w w':World) (r:Option SeD) (cs:Array Value):Prop:=(cs.size = 36 ∧ Ones cs) ∧ (∀ D,r = some D → SeV w.heap.size w' cs D) ∧ Below w.heap.size w w'
theorem yields_load8 {ops:Array Oper} {S:World → Prop} {o:Oper} {a:Act} (hw:Region.wanted o (yielded ops a.tmps) = true) (p:Operand) (ho:o.op = .load 49 p)
  {g:Nat} {cs:Array Value} {t:TypeId} (hp:a.eval p = .pointer (some ⟨g,0,none⟩)) (hb:∀ v,S v → Box v g cs t) (hs:cs.size = 36):YieldsIf Tryz.prog ops S o (.agg cs) a :=
 Or.inl ⟨hw,fun v hv => by simp only [execOp,ho,Instr.loadAt,hp,Instr.sureAddr,Sem.run_bind,Sem.run_pure,Result.andThen_ok,loadVar_box8 (hb v hv) hs]⟩
theorem wp_store8 {w:World} {o:Oper} {a:Act} {K:Act → World → Prop} {Q:Exit → Act → World → Prop} (p x:Operand) (ho:o.op = .store 49 p x)
  {g:Nat} {cs old:Array Value} {t:TypeId} (hp:a.eval p = .pointer (some ⟨g,0,none⟩)) (hx:a.eval x = .agg cs) (hb:Box w g old t) (hs:cs.size = 36) (hso:old.size = 36) (h1:Ones cs)
  (h:∀ w',Box w' g cs t → Stay g w w' → w'.heap.size = w.heap.size → K (a.put o.dst undef) w'):Oper.wp Tryz.prog o a w K Q:=by
 have hst:=run_storeCells_at Tryz.prog g 0 t cs.toList 0 old w hb (by simp [hs,hso]) h1
 simp only [Nat.zero_add,Nat.add_zero,List.take_zero,List.nil_append,Array.length_toList] at hst
 rw [List.drop_of_length_le (by simp [hs,hso]),List.append_nil,Array.toArray_toList] at hst
 unfold Oper.wp
 simp only [execOp,ho,Instr.storeAt,storeVar,hp,hx,Value.cells,Instr.sureAddr,Sem.run_bind,Sem.run_pure,Result.andThen_ok,sizeSe_run,hs,ne_eq,not_true_eq_false,if_false,hst]
 exact h _ (setRow_heap w g old cs t (0,0) hb) setRow_stay8 (by simp [World.setRow])
theorem SeIn.int24 {B g:Nat} {w:World} {cs:Array Value} {D:SeD} (h:SeIn B g w cs D):cs[24]? = some (.int .i64 (D 24).x):=by
 obtain ⟨h1,h2⟩:=h.2 24 (by omega)
 generalize D 24 = F at h1 h2
 obtain ⟨k,x,y,xs,T⟩:=F
 match k with
 | 0 => exact h1.1
 | 1 => simp [kindF,kindsK] at h2
 | 2 => simp [kindF,kindsK] at h2
 | 3 => simp [kindF,kindsK] at h2
 | _ + 4 => simp [kindF,kindsK] at h2
theorem seen8 {t:TypeId} {w:World} {sb m:Nat} {sn:List Bool} {b:Bool} (h:Mrow t bc8 w sb sn) (hm:m < sn.length) (hb:sn.getD m false = b):w.cell? ⟨sb,m,none⟩ = some (.bool b):=by
 have:=Mrow.at bcWd8 (z:=false) h (i:=m) (j:=0) hm rfl
 rw [hb] at this
 simpa using this
theorem csetting8_any (r:RoA) (B0:Nat) (p:Option Addr) (c:Nat) (l:List AtA) (w:World) (h:RoIn w r)
  (hr:∀ d ∈ r.ats,isB d.1 ∧ (Lit.int .i64 d.2.2.1).wf = true ∧ ∃ so:Nat,so < 20 ∧ d.2.1 = so) (hl6:r.ats.length ≤ 6) (hg:Rc 12 atCells noAtA w p c l) (hi:∀ x ∈ l,AtIn B0 w x ∧ okT8 x.T) :
  Calls Tryz.prog 104 #[.agg (roCells r).toArray,.slice p l.length c] w fun e w' => ∃ cs,e = .returned (.tuple #[.agg cs,.bool (settingV r.ats (l.map AtA.d)).isSome]) ∧ SetP w w' (settingV r.ats (l.map AtA.d)) cs:=by
 obtain ⟨i1,hi1,y1,z1,b1⟩:=info_parts Tryz.info8bool
 obtain ⟨nm,ra,rb,rc,rd,ats,q,k⟩:=r
 have nl:=hg.len
 have HA:=hide (h:AdIn w q k ats)
 have HRR:=hide hr
 have HG:=hide hg
 have HI:=hide hi
 simp only at hl6
 obtain ⟨R,hR⟩:∃ R,settingV ats (l.map AtA.d) = R:=⟨_,rfl⟩
 have HR:=hide hR
 rw [show RoA.ats ⟨nm,ra,rb,rc,rd,ats,q,k⟩ = ats from rfl,hR]
 clear h hr hg hi hR
 unfold roCells strV
 obtain ⟨W,hW⟩:∃ W,W = (w.alloc (.cells #[.string (strOfNums nm),.int .i64 ra,.int .i64 rb,.int .i64 rc,.int .i64 rd,.slice q ats.length k] 142)).alloc (.cells zeroC 49):=⟨_,rfl⟩
 have Z:Hid (W.heap.size = w.heap.size + 2):=hide (by rw [hW]; simp)
 have BW:Hid (Below w.heap.size w W):=hide (by rw [hW]; exact bl_tr (al1p _ _) (al1p _ _))
 have X0:Hid (Box W w.heap.size #[.string (strOfNums nm),.int .i64 ra,.int .i64 rb,.int .i64 rc,.int .i64 rd,.slice q ats.length k] 142):=hide (by rw [hW]; exact Box.alloc (Box.new _ _ _) _)
 have R0:Hid (Box W (w.heap.size + 1) zeroC 49):=hide (by rw [hW]; have:=Box.new (w.alloc (.cells #[.string (strOfNums nm),.int .i64 ra,.int .i64 rb,.int .i64 rc,.int .i64 rd,.slice q ats.length k] 142)) zeroC 49; simp at this; exact this)
 have CS:=hide (cstand8_any ⟨nm,ra,rb,rc,rd,ats,q,k⟩ W (RoIn.below (uh HA) (uh BW)) (fun a ha => ⟨(uh HRR a ha).1,(uh HRR a ha).2.1⟩) hl6)
 unfold roCells strV at CS
 have CN:=hide (fun v (hv:Below w.heap.size w v) => chas8_any [112,97,100,115] p c l v ((uh HG).below hv) (fun x hx => (uh HI x hx).1.1) (isB_of rfl))
 go_enter Tryz.func104,Tryz.ntmps104
 go_wp2_with fail
 have hW2:=hW
 unfold zeroC at hW2
 rw [← hW2]
 clear hW hW2
 refine (uh CS).mono ?_
 rintro e w1 ⟨cs0,rfl,hv,hb⟩
 have V0:=hide hv
 have B1:=hide hb
 clear hv hb CS
 have zw1:w.heap.size + 2 ≤ w1.heap.size:=by have:=(uh B1).size; have:=uh Z; omega
 have X1:=hide ((uh X0).below (uh B1))
 have R1:=hide ((uh R0).below (uh B1))
 have B01:=hide (bl_tr (uh BW) (uh B1))
 have HZW:=hide zw1
 clear zw1 X0 R0
 go_wp2_with (first
  | (refine wpList_store8 rfl _ _ rfl rfl rfl (Box.new _ _ _) (uh V0).1 rfl (SeIn.ones (uh V0)) ?_; intro w2 b2 s2 z2; have B2:=hide b2; have S2:=hide s2; have Z2:=hide z2; have X2:Hid (Box w2 w.heap.size #[.string (strOfNums nm),.int .i64 ra,.int .i64 rb,.int .i64 rc,.int .i64 rd,.slice q ats.length k] 142):=hide ((s2.block (by have:=uh HZW; omega) (by have:=uh HZW; simp; omega)).trans ((uh X1).alloc _)); clear b2 s2 z2; have x2:=(uh X2).cell; have xl2:=(uh X2).lt)
  | (at_make; (refine wpList_make_full _ rfl _ _ 39 rfl w2.heap.size 4 i1 (.bool false) 1 Tryz.underlying39 hi1 y1 z1 _ _ _ _ ats.length rfl rfl (by omega) (by omega) (by rw [b1]; omega) (by unfold maxLen; omega) (Nat.le_refl _) ?_; intro w3 hown hgrow; have HM:=hide (Mrow.made bcWd8 false rfl hown); have HB3:=hide ((Below.refl w2.heap.size w2).grown hgrow (Nat.le_refl _) (fun k hk => by cases hk)); clear hown hgrow)))
 have zz:w2.heap.size = w1.heap.size + 1:=by rw [uh Z2]; simp
 have G3:Hid (SeB (w.heap.size + 2) w1.heap.size w3 (standD ats)):=hide (by
  have v0:=(uh V0).at (Nat.le_refl _)
  rw [uh Z] at v0
  exact SeB.stay ⟨cs0,uh B2,(v0.stay (Stay.below (al1p _ _) (Nat.le_refl _))).stay (uh S2)⟩ (uh HB3))
 have BB3:Hid (Below w1.heap.size w1 w3):=hide (bl_tr7 (bl_tr7 (al1p w1 _) (uh S2).1) (bl_mono7 (uh HB3) (by omega)))
 obtain ⟨g,hgg⟩:∃ g,w1.heap.size = g:=⟨_,rfl⟩
 obtain ⟨sb,hsb⟩:∃ sb,w2.heap.size = sb:=⟨_,rfl⟩
 have HSB:Hid (sb = g + 1):=hide (by omega)
 rw [hsb] at HM
 rw [hgg] at G3
 rw [hgg,hsb]
 have HGE:=hide hgg
 clear hgg hsb zz V0 B1 B2 S2 Z2 HB3 X2 x2 xl2
 obtain ⟨PR,hPR⟩:∃ f:Nat → Option (SeD × List Bool),f = fun n => foldS ats ((l.map AtA.d).take n):=⟨_,rfl⟩
 have HP0:Hid (PR 0 = some (standD ats,List.replicate ats.length false)):=hide (by rw [hPR]; rfl)
 have HPN:Hid (∀ n,n < l.length → PR (n + 1) = stepS ats (PR n) (l.getD n noAtA).d):=hide (by
  rw [hPR]
  intro n hn
  show foldS ats ((l.map AtA.d).take (n + 1)) = stepS ats (foldS ats ((l.map AtA.d).take n)) (l.getD n noAtA).d
  have e:=fold_take ats (l.map AtA.d) noAtA.d n (by simpa using hn)
  rw [e,List.getD_eq_getElem?_getD,List.getElem?_map,List.getElem?_eq_getElem hn,List.getD_eq_getElem?_getD,List.getElem?_eq_getElem hn]
  rfl)
 have HPE:Hid (PR l.length = foldS ats (l.map AtA.d)):=hide (by
  rw [hPR]
  show foldS ats ((l.map AtA.d).take l.length) = _
  rw [List.take_of_length_le (by simp)])
 have HPC:Hid (∀ n,PR n = none → none = R):=hide (by
  rw [hPR]
  intro n hn
  rw [← uh HR]
  unfold settingV
  rw [fold_cut ats _ n hn])
 clear hPR
 go_loopw [21] (fun iv wr => ∃ (n:Nat) (D:SeD) (sn:List Bool),iv = .int .i64 n ∧ n ≤ l.length ∧ Hid (PR n = some (D,sn)) ∧ Hid (sn.length = ats.length) ∧ Hid (SeB (w.heap.size + 2) g wr D) ∧ Hid (Mrow 4 bc8 wr sb sn) ∧ Hid (Below w1.heap.size w1 wr)) (fun iv _ => l.length - (intOf iv).toNat)
 case atStart => exact ⟨0,_,_,rfl,by omega,HP0,hide (by simp),G3,HM,BB3⟩
 case round =>
  obtain ⟨n,D,sn,rfl,hn,HF,HL,G,M,BB⟩:=hrel
  have BA:=hide (bl_tr (uh B01) (uh BB))
  by_cases hlt:n < l.length
  ·have hi:(n:Int) < (l.length:Int):=by omega
   have hp0:0 < l.length:=by omega
   obtain ⟨b,o,rfl,hb,hc⟩:=((uh HG).below (uh BA)).lies hp0
   have k0:wr.cell? ⟨b,o + n * 12,none⟩ = some (strV (l.getD n noAtA).nm):=hc n hlt 0 _ rfl
   have k1:wr.cell? ⟨b,o + n * 12 + 1,none⟩ = some (.int .i64 (l.getD n noAtA).kd):=hc n hlt 1 _ rfl
   have k2:wr.cell? ⟨b,o + n * 12 + 2,none⟩ = some (.int .u32 (l.getD n noAtA).f):=hc n hlt 2 _ rfl
   have k3:wr.cell? ⟨b,o + n * 12 + 3,none⟩ = some (.int .i64 (l.getD n noAtA).i):=hc n hlt 3 _ rfl
   have k4:wr.cell? ⟨b,o + n * 12 + 4,none⟩ = some (strV (l.getD n noAtA).s):=hc n hlt 4 _ rfl
   have k5:wr.cell? ⟨b,o + n * 12 + 5,none⟩ = some (.int .i64 (l.getD n noAtA).T.1):=hc n hlt 5 _ rfl
   have k6:wr.cell? ⟨b,o + n * 12 + 6,none⟩ = some (.slice (l.getD n noAtA).A.pd (l.getD n noAtA).T.2.1.length (l.getD n noAtA).A.cd):=hc n hlt 6 _ rfl
   have k7:wr.cell? ⟨b,o + n * 12 + 7,none⟩ = some (.slice (l.getD n noAtA).A.pf (l.getD n noAtA).T.2.2.1.length (l.getD n noAtA).A.cf):=hc n hlt 7 _ rfl
   have k8:wr.cell? ⟨b,o + n * 12 + 8,none⟩ = some (.slice (l.getD n noAtA).A.pi (l.getD n noAtA).T.2.2.2.1.length (l.getD n noAtA).A.ci):=hc n hlt 8 _ rfl
   have k9:wr.cell? ⟨b,o + n * 12 + 9,none⟩ = some (.slice (l.getD n noAtA).A.pb (l.getD n noAtA).T.2.2.2.2.length (l.getD n noAtA).A.cb):=hc n hlt 9 _ rfl
   have k10:wr.cell? ⟨b,o + n * 12 + 10,none⟩ = some (.slice (l.getD n noAtA).qf (l.getD n noAtA).fl.length (l.getD n noAtA).cf):=hc n hlt 10 _ rfl
   have k11:wr.cell? ⟨b,o + n * 12 + 11,none⟩ = some (.slice (l.getD n noAtA).qi (l.getD n noAtA).is.length (l.getD n noAtA).ci):=hc n hlt 11 _ rfl
   have HX:=hide (uh HPN n hlt)
   have hxi:=uh HI _ (getD_mem7 (z:=noAtA) hlt)
   have AI:=hide (hxi.1.below8 (uh BA))
   have OT:=hide hxi.2
   clear hxi
   generalize l.getD n noAtA = x at k0 k1 k2 k3 k4 k5 k6 k7 k8 k9 k10 k11 HX AI OT
   rw [uh HF] at HX
   have X4:=hide ((uh X1).below (uh BB))
   have IX:=hide (cidxAtd_any 140 (ent_of Tryz.func140 (by kernel_rfl) rfl) #[.pointer (some ⟨wr.heap.size,0,none⟩)] (fun d => decide (d.1 = x.nm)) q k ats (wr.alloc (.cells (atCells x).toArray 121)) ((uh HA).kept (Kept.below (bl_tr (uh BA) (al1p _ _)))).1 (fun v hv d hd =>
    csetting1_any d x wr.heap.size v (uh HRR d hd).1 (uh AI).1 ((Box.new wr _ _).below hv).lt (by rw [((Box.new wr _ _).below hv).cell]; rfl)))
   have R4:=hide ((uh R1).below (uh BB))
   obtain ⟨nm2,kd,f,i,s,⟨t0,t1,t2,t3,t4⟩,⟨pd,cd,pf,cf,pi,ci,pb,cb⟩,fl,qf,cfl,is,qi,cis⟩:=x
   unfold atCells tenCells strV at IX
   unfold stepS AtA.d at HX
   simp only [List.cons_append,List.nil_append] at IX HX k0 k1 k2 k3 k4 k5 k6 k7 k8 k9 k10 k11
   unfold strV at k0 k4
   obtain ⟨I,hI⟩:∃ I,idxI (fun d:AtD => decide (d.1 = nm2)) ats = I:=⟨_,rfl⟩
   rw [hI] at IX HX
   have II:=hide hI
   have x4:=(uh X4).cell
   have xl4:=(uh X4).lt
   clear hI hc
   by_cases hI0:I < 0
   ·skip
    rw [if_pos hI0] at HX
    have e0:=uh HPC (n + 1) (uh HX)
    subst e0
    go_wp2_with fail
    refine (uh IX).mono ?_
    rintro e w5 ⟨rfl,hb5⟩
    have B5:=hide (bl_tr (al1p _ _) hb5)
    have R5:=hide ((uh R4).below (uh B5))
    clear hb5 IX
    go_wp2_with fail
    go_region
    go_wp2_with (refine wpList_store8 rfl _ _ rfl rfl rfl ((uh R5).below (bdrew8 _)) rfl rfl zero_ones ?_; intro w6 b6 s6 _; have B6:=hide b6; have S6:=hide s6; clear b6 s6)
    refine bodyPost_ret (results_se2 rfl rfl (uh B6) rfl) rfl ⟨_,rfl,⟨rfl,zero_ones⟩,fun D e => (by cases e),?_⟩
    exact bl_tr7 (bl_tr (bl_tr (uh BA) (uh B5)) (bdrew8 _)) (bl_mono7 (uh S6).1 (Nat.le_succ _))
   ·have hix:=idxI_lt (fun d:AtD => decide (d.1 = nm2)) noAtD ats (by rw [uh II]; omega)
    rw [uh II] at hix
    obtain ⟨m,rfl,hm,hpm,_⟩:=hix
    rw [if_neg hI0,show ((m:Int)).toNat = m from rfl] at HX
    have hms:m < sn.length:=by rw [uh HL]; exact hm
    have c7:wr.cell? ⟨sb,m,none⟩ = some (.bool (sn.getD m false)):=by
     have:=Mrow.at bcWd8 (z:=false) (uh M) (i:=m) (j:=0) hms rfl
     simpa using this
    have sl7:sb < wr.heap.size:=lt_of_block (uh M)
    have f7:=(uh M).frozen m
    have hmi:(m:Int) < (ats.length:Int):=by omega
    have hm0:decide ((m:Int) < 0) = false:=decide_eq_false (by omega)
    clear hI0
    cases hsm:sn.getD m false
    ·rw [hsm,if_neg (by decide)] at HX
     have HSM:=hide hsm
     have hq0:0 < ats.length:=by omega
     obtain ⟨bq,oq,rfl,hbq,hcq⟩:=(uh HA).1.lies hq0
     have HBQ:=hide hbq
     obtain ⟨hA1,hA2,so,hso,hA3⟩:=uh HRR _ (getD_mem7 (z:=noAtD) hm)
     have Q0:Hid (w.cell? ⟨bq,oq + m * 4,none⟩ = some (strV (ats.getD m noAtD).1)):=hide (hcq m hm 0 _ rfl)
     have Q1:Hid (w.cell? ⟨bq,oq + m * 4 + 1,none⟩ = some (.int .i64 (ats.getD m noAtD).2.1)):=hide (hcq m hm 1 _ rfl)
     have Q2:Hid (w.cell? ⟨bq,oq + m * 4 + 2,none⟩ = some (.int .i64 (ats.getD m noAtD).2.2.1)):=hide (hcq m hm 2 _ rfl)
     have Q3:Hid (w.cell? ⟨bq,oq + m * 4 + 3,none⟩ = some (.int .i64 (ats.getD m noAtD).2.2.2)):=hide (hcq m hm 3 _ rfl)
     have HMM:=hide (And.intro hm hms)
     clear hpm hcq hbq hm hms hsm
     generalize ats.getD m noAtD = a1 at Q0 Q1 Q2 Q3 HX hA1 hA2 hA3
     obtain ⟨an,az,st,ne⟩:=a1
     simp only at Q0 Q1 Q2 Q3 HX hA1 hA2 hA3
     subst hA3
     unfold strV at Q0
     obtain ⟨R7,hR7⟩:∃ r,takeV so an kd f i s (t0,t1,t2,t3,t4) fl is = r:=⟨_,rfl⟩
     rw [hR7] at HX
     have HR7:=hide hR7
     have HO:=hide (And.intro hA1 hso)
     clear hR7 hA1 hA2 hso c7
     have f7m:=f7
     clear f7
     go_wp2_with fail
     refine (uh IX).mono ?_
     rintro e w5 ⟨rfl,hb5⟩
     have A5:Hid (Box w5 wr.heap.size #[.string (strOfNums nm2),.int .i64 kd,.int .u32 f,.int .i64 i,.string (strOfNums s),.int .i64 t0,.slice pd t1.length cd,.slice pf t2.length cf,.slice pi t3.length ci,.slice pb t4.length cb,.slice qf fl.length cfl,.slice qi is.length cis] 121):=hide ((Box.new wr _ _).below hb5)
     have B5:=hide (bl_tr (al1p _ _) hb5)
     clear hb5 IX
     have D5:Hid (Below wr.heap.size wr w5.drew):=hide (bl_tr (uh B5) (bdrew8 _))
     have R5:=hide ((uh R4).below (uh D5))
     have X5:=hide ((uh X4).below (uh D5))
     have AD5:=hide ((uh A5).below (bdrew8 _))
     have M5:Hid (Mrow 4 bc8 w5.drew sb sn):=hide (((uh D5).block sb sl7).trans (uh M))
     have G5:=hide ((uh G).stay (uh D5))
     have Q5:Hid (w5.drew.heap[bq]? = w.heap[bq]?):=hide ((bl_tr (uh BA) (uh D5)).block bq (uh HBQ))
     have z5:Hid (w.heap.size + 2 ≤ g ∧ g < wr.heap.size ∧ sb = g + 1 ∧ wr.heap.size ≤ w5.drew.heap.size):=hide ⟨by have:=uh HGE; have:=uh HZW; omega,(uh G).lt,uh HSB,(uh D5).size⟩
     have CT:=hide (ctake8_any an so (uh HO).2 st ne ⟨nm2,kd,f,i,s,(t0,t1,t2,t3,t4),⟨pd,cd,pf,cf,pi,ci,pb,cb⟩,fl,qf,cfl,is,qi,cis⟩ B0 (w.heap.size + 2) g D w5.drew (uh G5) (uh HO).1 ((uh AI).below8 (uh D5)) (uh OT) (by have:=uh z5; omega))
     simp only [uh HR7] at CT
     unfold atCells tenCells strV at CT
     simp only [List.cons_append,List.nil_append] at CT
     have x5d:=(uh X5).cell
     have a5d:=(uh AD5).cell
     have c5d:w5.drew.cell? ⟨sb,m,none⟩ = some (.bool false):=seen8 (uh M5) (uh HMM).2 (uh HSM)
     have q05d:w5.drew.cell? ⟨bq,oq + m * 4,none⟩ = some (.string (strOfNums an)):=(World.cell?_of_block (w:=w) (uh Q5)).trans (uh Q0)
     have q15d:w5.drew.cell? ⟨bq,oq + m * 4 + 1,none⟩ = some (.int .i64 (so:Int)):=(World.cell?_of_block (w:=w) (uh Q5)).trans (uh Q1)
     have q25d:w5.drew.cell? ⟨bq,oq + m * 4 + 2,none⟩ = some (.int .i64 st):=(World.cell?_of_block (w:=w) (uh Q5)).trans (uh Q2)
     have q35d:w5.drew.cell? ⟨bq,oq + m * 4 + 3,none⟩ = some (.int .i64 ne):=(World.cell?_of_block (w:=w) (uh Q5)).trans (uh Q3)
     clear x4
     cases R7 with
     | none =>
       have e0:=uh HPC (n + 1) (uh HX)
       subst e0
       simp only [Option.isSome_none] at CT
       go_wp2_with fail
       go_region_held3 (fun v => (∀ j,v.cell? ⟨w.heap.size,j,none⟩ = (#[.string (strOfNums nm),.int .i64 ra,.int .i64 rb,.int .i64 rc,.int .i64 rd,.slice (some ⟨bq,oq,none⟩) ats.length k]:Array Value)[j]?) ∧ (∀ j,v.cell? ⟨wr.heap.size,j,none⟩ = (#[.string (strOfNums nm2),.int .i64 kd,.int .u32 f,.int .i64 i,.string (strOfNums s),.int .i64 t0,.slice pd t1.length cd,.slice pf t2.length cf,.slice pi t3.length ci,.slice pb t4.length cb,.slice qf fl.length cfl,.slice qi is.length cis]:Array Value)[j]?) ∧ v.cell? ⟨sb,m,none⟩ = some (.bool false) ∧ v.cell? ⟨bq,oq + m * 4,none⟩ = some (.string (strOfNums an)) ∧ v.cell? ⟨bq,oq + m * 4 + 1,none⟩ = some (.int .i64 (so:Int)) ∧ v.cell? ⟨bq,oq + m * 4 + 2,none⟩ = some (.int .i64 st) ∧ v.cell? ⟨bq,oq + m * 4 + 3,none⟩ = some (.int .i64 ne)) (refine ⟨?_,?_,?_,?_,?_,?_,?_⟩ <;> with_reducible assumption)
        (first
         | (go_at_call 141; (refine (uh CT).mono ?_; rintro e w7 ⟨rfl,hT⟩; have T7:=hide hT; have X7:=hide (hT.1.box (uh X5) (by have:=uh z5; omega)); have A7:=hide (hT.1.box (uh AD5) (by have:=uh z5; omega)); have R7b:=hide (hT.1.box (uh R5) (by have:=uh z5; omega)); have M7:=hide ((uh M5).stay hT.1 (by have:=uh z5; omega)); have Q7:Hid (w7.heap[bq]? = w.heap[bq]?):=hide ((hT.1.block (by have:=uh HBQ; have:=uh z5; omega) (by have:=uh HBQ; have:=uh z5; omega)).trans (uh Q5)); clear hT x5d a5d c5d q05d q15d q25d q35d; have x7:=(uh X7).cell; have a7:=(uh A7).cell; have c7:w7.cell? ⟨sb,m,none⟩ = some (.bool false):=seen8 (uh M7) (uh HMM).2 (uh HSM); have q07:w7.cell? ⟨bq,oq + m * 4,none⟩ = some (.string (strOfNums an)):=(World.cell?_of_block (w:=w) (uh Q7)).trans (uh Q0); have q17:w7.cell? ⟨bq,oq + m * 4 + 1,none⟩ = some (.int .i64 (so:Int)):=(World.cell?_of_block (w:=w) (uh Q7)).trans (uh Q1); have q27:w7.cell? ⟨bq,oq + m * 4 + 2,none⟩ = some (.int .i64 st):=(World.cell?_of_block (w:=w) (uh Q7)).trans (uh Q2); have q37:w7.cell? ⟨bq,oq + m * 4 + 3,none⟩ = some (.int .i64 ne):=(World.cell?_of_block (w:=w) (uh Q7)).trans (uh Q3))))
       go_wp2_with (refine wpList_store8 rfl _ _ rfl rfl rfl (uh R7b) rfl rfl zero_ones ?_; intro w6 b6 s6 _; have B6:=hide b6; have S6:=hide s6; clear b6 s6)
       refine bodyPost_ret (results_se2 rfl rfl (uh B6) rfl) rfl ⟨_,rfl,⟨rfl,zero_ones⟩,fun D e => (by cases e),?_⟩
       exact bl_tr7 (bl_tr7 (bl_tr (uh BA) (uh D5)) (bl_mono7 (uh T7).1.1 (by have:=uh z5; omega))) (bl_mono7 (uh S6).1 (Nat.le_succ _))
     | some L7 =>
       simp only [Option.isSome_some] at CT
       go_wp2_with fail
       go_region_held3 (fun v => (∀ j,v.cell? ⟨w.heap.size,j,none⟩ = (#[.string (strOfNums nm),.int .i64 ra,.int .i64 rb,.int .i64 rc,.int .i64 rd,.slice (some ⟨bq,oq,none⟩) ats.length k]:Array Value)[j]?) ∧ (∀ j,v.cell? ⟨wr.heap.size,j,none⟩ = (#[.string (strOfNums nm2),.int .i64 kd,.int .u32 f,.int .i64 i,.string (strOfNums s),.int .i64 t0,.slice pd t1.length cd,.slice pf t2.length cf,.slice pi t3.length ci,.slice pb t4.length cb,.slice qf fl.length cfl,.slice qi is.length cis]:Array Value)[j]?) ∧ v.cell? ⟨sb,m,none⟩ = some (.bool false) ∧ v.cell? ⟨bq,oq + m * 4,none⟩ = some (.string (strOfNums an)) ∧ v.cell? ⟨bq,oq + m * 4 + 1,none⟩ = some (.int .i64 (so:Int)) ∧ v.cell? ⟨bq,oq + m * 4 + 2,none⟩ = some (.int .i64 st) ∧ v.cell? ⟨bq,oq + m * 4 + 3,none⟩ = some (.int .i64 ne)) (refine ⟨?_,?_,?_,?_,?_,?_,?_⟩ <;> with_reducible assumption)
        (first
         | (go_at_call 141; (refine (uh CT).mono ?_; rintro e w7 ⟨rfl,hT⟩; have T7:=hide hT; have X7:=hide (hT.1.box (uh X5) (by have:=uh z5; omega)); have A7:=hide (hT.1.box (uh AD5) (by have:=uh z5; omega)); have R7b:=hide (hT.1.box (uh R5) (by have:=uh z5; omega)); have M7:=hide ((uh M5).stay hT.1 (by have:=uh z5; omega)); have Q7:Hid (w7.heap[bq]? = w.heap[bq]?):=hide ((hT.1.block (by have:=uh HBQ; have:=uh z5; omega) (by have:=uh HBQ; have:=uh z5; omega)).trans (uh Q5)); clear hT x5d a5d c5d q05d q15d q25d q35d; have x7:=(uh X7).cell; have a7:=(uh A7).cell; have c7:w7.cell? ⟨sb,m,none⟩ = some (.bool false):=seen8 (uh M7) (uh HMM).2 (uh HSM); have q07:w7.cell? ⟨bq,oq + m * 4,none⟩ = some (.string (strOfNums an)):=(World.cell?_of_block (w:=w) (uh Q7)).trans (uh Q0); have q17:w7.cell? ⟨bq,oq + m * 4 + 1,none⟩ = some (.int .i64 (so:Int)):=(World.cell?_of_block (w:=w) (uh Q7)).trans (uh Q1); have q27:w7.cell? ⟨bq,oq + m * 4 + 2,none⟩ = some (.int .i64 st):=(World.cell?_of_block (w:=w) (uh Q7)).trans (uh Q2); have q37:w7.cell? ⟨bq,oq + m * 4 + 3,none⟩ = some (.int .i64 ne):=(World.cell?_of_block (w:=w) (uh Q7)).trans (uh Q3))))
       have fz:w7.frozen? ⟨sb,m,none⟩ = false:=(uh M7).frozen m
       have sl7b:sb < w7.heap.size:=lt_of_block (uh M7)
       go_wp2_with fail
       go_roundw
       case rel =>
        refine ⟨n + 1,_,_,by go_num,by omega,HX,hide (by rw [List.length_set]; exact uh HL),hide (((uh T7).2 L7 rfl).stay1 ?_),hide ?_,hide ?_⟩
        ·rw [uh HSB]; exact Stay.set8 _
        ·have:=Mrow.set bcWd8 (uh M7) true (uh HMM).2
         simpa [setMany,bc8] using this
        ·exact bl_tr7 (bl_tr7 (bl_tr (uh BB) (uh D5)) (bl_mono7 (uh T7).1.1 (by rw [uh HGE]; exact Nat.le_refl _))) ((Below.refl _ w7).setCell (p:=⟨sb,m,none⟩) (by have:=uh HGE; have:=uh HSB; simp only; omega) _)
       case measure => simp [intOf]; omega
    ·skip
     rw [hsm] at c7
     rw [hsm,if_pos rfl] at HX
     have e0:=uh HPC (n + 1) (uh HX)
     subst e0
     have HMM:=hide (And.intro hm hms)
     clear hm hms hpm
     go_wp2_with fail
     refine (uh IX).mono ?_
     rintro e w5 ⟨rfl,hb5⟩
     have B5:=hide (bl_tr (al1p _ _) hb5)
     have R5:=hide ((uh R4).below (uh B5))
     have M5:Hid (Mrow 4 bc8 w5 sb sn):=hide (((uh B5).block sb sl7).trans (uh M))
     have c8:w5.cell? ⟨sb,m,none⟩ = some (.bool true):=by
      have:=Mrow.at bcWd8 (z:=false) (uh M5) (i:=m) (j:=0) (uh HMM).2 rfl
      rw [hsm] at this
      simpa using this
     clear hb5 IX hsm
     go_wp2_with fail
     go_region
     go_wp2_with (refine wpList_store8 rfl _ _ rfl rfl rfl ((uh R5).below (bdrew8 _)) rfl rfl zero_ones ?_; intro w6 b6 s6 _; have B6:=hide b6; have S6:=hide s6; clear b6 s6)
     refine bodyPost_ret (results_se2 rfl rfl (uh B6) rfl) rfl ⟨_,rfl,⟨rfl,zero_ones⟩,fun D e => (by cases e),?_⟩
     exact bl_tr7 (bl_tr (bl_tr (uh BA) (uh B5)) (bdrew8 _)) (bl_mono7 (uh S6).1 (Nat.le_succ _))
  ·have he:n = l.length:=by omega
   subst he
   have E1:=uh HPE
   rw [uh HF] at E1
   have HRR2:Hid ((if (List.range ats.length).any (needB ats sn) = true then none else if (D 24).x = 0 ∨ ((l.map AtA.d).any fun a => decide (a.1 = [112,97,100,115])) = false then some D else none) = R):=hide (by rw [← uh HR]; unfold settingV; rw [← E1])
   clear E1 HPN HP0 HPE HPC HF
   obtain ⟨v0,hv0⟩:∃ v,v = wr:=⟨_,rfl⟩
   subst hv0
   have X4:=hide ((uh X1).below (uh BB))
   have R4:=hide ((uh R1).below (uh BB))
   have x4:=(uh X4).cell
   have xl4:=(uh X4).lt
   have sl4:sb < v0.heap.size:=lt_of_block (uh M)
   have HSL4:=hide sl4
   clear sl4
   go_wp2_with fail
   go_loopw [55] (fun iv wq => ∃ n2:Nat,iv = .int .i64 n2 ∧ n2 ≤ ats.length ∧ Hid (∀ j,j < n2 → needB ats sn j = false) ∧ Hid (Below v0.heap.size v0 wq)) (fun iv _ => ats.length - (intOf iv).toNat)
   case atStart => exact ⟨0,rfl,by omega,hide (fun j hj => absurd hj (by omega)),hide (Below.refl _ _)⟩
   case round =>
    obtain ⟨n2,rfl,hn2,HN2,BQ⟩:=hrel
    have MQ:Hid (Mrow 4 bc8 wr sb sn):=hide ((uh M).below (uh BQ))
    have RQ:=hide ((uh R4).below (uh BQ))
    have BAQ:=hide (bl_tr (uh BA) (uh BQ))
    by_cases hlt2:n2 < ats.length
    ·skip
     have hi2:(n2:Int) < (ats.length:Int):=by omega
     have hp2:0 < ats.length:=by omega
     obtain ⟨bq,oq,rfl,hbq,hcq⟩:=((uh HA).kept (Kept.below (uh BAQ))).1.lies hp2
     have q0:wr.cell? ⟨bq,oq + n2 * 4,none⟩ = some (strV (ats.getD n2 noAtD).1):=hcq n2 hlt2 0 _ rfl
     have q1:wr.cell? ⟨bq,oq + n2 * 4 + 1,none⟩ = some (.int .i64 (ats.getD n2 noAtD).2.1):=hcq n2 hlt2 1 _ rfl
     have q2:wr.cell? ⟨bq,oq + n2 * 4 + 2,none⟩ = some (.int .i64 (ats.getD n2 noAtD).2.2.1):=hcq n2 hlt2 2 _ rfl
     have q3:wr.cell? ⟨bq,oq + n2 * 4 + 3,none⟩ = some (.int .i64 (ats.getD n2 noAtD).2.2.2):=hcq n2 hlt2 3 _ rfl
     have hns:n2 < sn.length:=by rw [uh HL]; exact hlt2
     have c4:wr.cell? ⟨sb,n2,none⟩ = some (.bool (sn.getD n2 false)):=seen8 (uh MQ) hns rfl
     have sl5:sb < wr.heap.size:=lt_of_block (uh MQ)
     have HND:Hid (needB ats sn n2 = (decide ((ats.getD n2 noAtD).2.2.2 = 1) && !(sn.getD n2 false))):=hide rfl
     have HNL:=hide hlt2
     generalize sn.getD n2 false = sv at c4 HND
     generalize ats.getD n2 noAtD = a1 at q0 q1 q2 q3 HND
     obtain ⟨an,az,st,ne⟩:=a1
     simp only at q0 q1 q2 q3 HND
     unfold strV at q0
     clear hcq
     cases hnb:needB ats sn n2
     ·have hgo:∀ j,j < n2 + 1 → needB ats sn j = false:=fun j hj => by
       by_cases e:j = n2
       ·rw [e]; exact hnb
       ·exact uh HN2 j (by omega)
      have HGO:=hide hgo
      rw [hnb] at HND
      by_cases h1:ne = 1
      ·have t1:(ne == 1) = true:=by simp [h1]
       have hsv:sv = true:=by have:=uh HND; simp [h1] at this; exact this
       subst hsv
       subst h1
       clear hgo hnb
       go_wp2_with fail
       go_roundw
       case rel => exact ⟨n2 + 1,by go_num,by omega,HGO,hide (bl_tr (uh BQ) (al1p _ _))⟩
       case measure => simp [intOf]; omega
      ·have t1:(ne == 1) = false:=by simp [h1]
       clear hgo hnb h1
       go_wp2_with fail
       go_roundw
       case rel => exact ⟨n2 + 1,by go_num,by omega,HGO,hide (bl_tr (uh BQ) (al1p _ _))⟩
       case measure => simp [intOf]; omega
     ·rw [hnb] at HND
      have hh:=uh HND
      simp at hh
      obtain ⟨rfl,rfl⟩:=hh
      have hn0:(none:Option SeD) = R:=by
       have e:=uh HRR2
       rw [if_pos (by rw [List.any_eq_true]; exact ⟨n2,by simp; exact uh HNL,hnb⟩)] at e
       exact e
      subst hn0
      clear hnb
      go_wp2_with (refine wpList_store8 rfl _ _ rfl rfl rfl (Box.alloc (uh RQ) _) rfl rfl zero_ones ?_; intro w6 b6 s6 _; have B6:=hide b6; have S6:=hide s6; clear b6 s6)
      refine bodyPost_ret (results_se2 rfl rfl (uh B6) rfl) rfl ⟨_,rfl,⟨rfl,zero_ones⟩,fun D e => (by cases e),?_⟩
      exact bl_tr7 (bl_tr (uh BAQ) (al1p _ _)) (bl_mono7 (uh S6).1 (Nat.le_succ _))
    ·have he2:n2 = ats.length:=by omega
     subst he2
     have hany:(List.range ats.length).any (needB ats sn) = false:=by
      rw [List.any_eq_false]
      intro j hj
      rw [uh HN2 j (by have:=List.mem_range.1 hj; omega)]
      decide
     have E2:=uh HRR2
     rw [hany,if_neg (by decide)] at E2
     have HE2:=hide E2
     clear E2 hany HRR2
     obtain ⟨cs,hbx,hin⟩:=(uh G).stay (uh BQ)
     have h24:=hin.int24
     have HIN:=hide hin
     have hcs:cs.size = 36:=hin.1
     have BX:=hide hbx
     have SI:Hid (SeIn w.heap.size w.heap.size wr cs D):=hide (hin.low (by omega) (by omega))
     have ON:=hide hin.ones
     have NE:Hid (w.heap.size + 1 ≠ g):=hide (by have:=uh HGE; have:=uh HZW; omega)
     have fin:∀ (w9:World),(∀ D',R = some D' → D' = D) → Stay (w.heap.size + 1) wr w9 → SetP w w9 R cs:=fun w9 hd hs => ⟨⟨hcs,uh ON⟩,fun D' e => by
      rw [hd D' e]
      exact SeIn.val (g:=w.heap.size) ⟨(uh SI).1,fun k hk => ⟨((uh SI).2 k hk).1.stay1 hs,((uh SI).2 k hk).2⟩⟩,bl_tr7 (uh BAQ) (bl_mono7 hs.1 (Nat.le_succ _))⟩
     have FIN:=hide fin
     obtain ⟨pb,hpb⟩:∃ b,(l.any fun x => decide (x.nm = [112,97,100,115])) = b:=⟨_,rfl⟩
     have hpb2:((l.map AtA.d).any fun a => decide (a.1 = [112,97,100,115])) = pb:=by rw [← hpb,List.any_map]; rfl
     rw [hpb2] at HE2
     have CH:=hide (uh CN wr.drew (bl_tr (uh BAQ) (bdrew8 _)))
     rw [hpb] at CH
     generalize (D 24).x = x24 at h24 HE2
     have S0:Box wr.drew g cs 49:=(uh BX).below (bdrew8 _)
     have C0:wr.drew.cell? ⟨g,24,none⟩ = some (.int .i64 x24):=by rw [S0.cell]; exact h24
     have HS0:=hide (And.intro S0 C0)
     have HC24:=hide h24
     clear S0 C0 h24 hbx hin fin hpb hpb2 HN2
     by_cases hx:x24 = 0
     ·skip
      subst hx
      rw [if_pos (Or.inl rfl)] at HE2
      have hR:=uh HE2
      subst hR
      go_wp2_with fail
      refine wp_region_held_drew (S:=fun v => Box v g cs 49 ∧ v.cell? ⟨g,24,none⟩ = some (.int .i64 0)) (by kernel_rfl) (uh HS0) (fun hHeld => ?_)
      refine wpAnyH_take (i:=0) (oi:={ dst:=some 72,op:=_,type:=_,pos:=_,after:=_,guard:=_ }) (v:=.agg cs) rfl (by kernel_rfl) (by kernel_rfl) (by kernel_rfl) (fun _ _ _ h => h) (yields_load8 (by rfl) _ rfl rfl (fun v hv => hv.1) hcs) (by assumption) ?_
      (try simp only [Act.put,List.setIfInBounds_toArray,List.set_cons_zero,List.set_cons_succ])
      refine wpAnyH_take (i:=1) (oi:={ dst:=some 73,op:=_,type:=_,pos:=_,after:=_,guard:=_ }) (v:=?vv1) rfl (by kernel_rfl) (by kernel_rfl) (by kernel_rfl) (fun _ _ _ h => h) (Or.inl ⟨by rfl,?hy1⟩) (by assumption) ?rest1
      case hy1 => (intro w hSw; (try dsimp only at hSw); go_simp; (first | done | with_reducible rfl))
      (try simp only [Act.put,List.setIfInBounds_toArray,List.set_cons_zero,List.set_cons_succ])
      refine wpAnyH_take (i:=2) (oi:={ dst:=some 74,op:=_,type:=_,pos:=_,after:=_,guard:=_ }) (v:=?vv2) rfl (by kernel_rfl) (by kernel_rfl) (by kernel_rfl) (fun _ _ _ h => h) (Or.inl ⟨by rfl,?hy2⟩) (by assumption) ?rest2
      case hy2 => (intro w hSw; (try dsimp only at hSw); go_simp; (first | done | with_reducible rfl))
      (try simp only [Act.put,List.setIfInBounds_toArray,List.set_cons_zero,List.set_cons_succ])
      refine wpAnyH_take (i:=3) (oi:={ dst:=some 75,op:=_,type:=_,pos:=_,after:=_,guard:=_ }) (v:=?vv3) rfl (by kernel_rfl) (by kernel_rfl) (by kernel_rfl) (fun _ _ _ h => h) (Or.inl ⟨by rfl,?hy3⟩) (by assumption) ?rest3
      case hy3 => (intro w hSw; (try dsimp only at hSw); go_simp; (first | done | with_reducible rfl))
      (try simp only [Act.put,List.setIfInBounds_toArray,List.set_cons_zero,List.set_cons_succ])
      refine wpAnyH_take (i:=4) (oi:={ dst:=some 76,op:=_,type:=_,pos:=_,after:=_,guard:=_ }) (v:=?vv4) rfl (by kernel_rfl) (by kernel_rfl) (by kernel_rfl) (fun _ _ _ h => h) (Or.inl ⟨by rfl,?hy4⟩) (by assumption) ?rest4
      case hy4 => (intro w hSw; (try dsimp only at hSw); go_simp; (first | done | with_reducible rfl))
      (try simp only [Act.put,List.setIfInBounds_toArray,List.set_cons_zero,List.set_cons_succ])
      refine wpAnyH_take (i:=5) (oi:={ dst:=some 77,op:=_,type:=_,pos:=_,after:=_,guard:=_ }) (v:=undef) rfl (by kernel_rfl) (by kernel_rfl) (by kernel_rfl) (fun _ _ _ h => h) (Or.inr ⟨by rfl,rfl⟩) (by assumption) ?_
      (try simp only [Act.put,List.setIfInBounds_toArray,List.set_cons_zero,List.set_cons_succ])
      refine wpAnyH_take (i:=6) (oi:={ dst:=some 78,op:=_,type:=_,pos:=_,after:=_,guard:=_ }) (v:=undef) rfl (by kernel_rfl) (by kernel_rfl) (by kernel_rfl) (fun _ _ _ h => h) (Or.inr ⟨by rfl,rfl⟩) (by assumption) ?_
      (try simp only [Act.put,List.setIfInBounds_toArray,List.set_cons_zero,List.set_cons_succ])
      refine wpAnyH_take (i:=7) (oi:={ dst:=some 79,op:=_,type:=_,pos:=_,after:=_,guard:=_ }) (v:=undef) rfl (by kernel_rfl) (by kernel_rfl) (by kernel_rfl) (fun _ _ _ h => h) (Or.inr ⟨by rfl,rfl⟩) (by assumption) ?_
      (try simp only [Act.put,List.setIfInBounds_toArray,List.set_cons_zero,List.set_cons_succ])
      refine wpAnyH_take (i:=8) (oi:={ dst:=some 80,op:=_,type:=_,pos:=_,after:=_,guard:=_ }) (v:=?vv5) rfl (by kernel_rfl) (by kernel_rfl) (by kernel_rfl) (fun _ _ _ h => h) (Or.inl ⟨by rfl,?hy5⟩) (by assumption) ?rest5
      case hy5 => (intro w hSw; (try dsimp only at hSw); go_simp; (first | done | with_reducible rfl))
      (try simp only [Act.put,List.setIfInBounds_toArray,List.set_cons_zero,List.set_cons_succ])
      refine wpAnyH_ready (rs:=[9]) (by kernel_rfl) (by simp) ?_
      refine AllReadyH.cons (o:={ dst:=none,op:=_,type:=_,pos:=_,after:=_,guard:=_ }) rfl (fun K hK => ?_) AllReadyH.nil
      rw [if_pos (by rfl)]
      refine wp_store8 _ _ rfl rfl rfl ((uh RQ).below (bdrew8 _)) hcs rfl (uh ON) ?_
      intro w9 b9 s9 z9
      refine hK.out _ _ ⟨s9.box ((uh HS0).1) (uh NE).symm,(((s9.box ((uh HS0).1) (uh NE).symm).cell 24).trans (uh HC24))⟩ (fun hHeld3 => ?_)
      clear hK K
      (try simp only [Act.put,List.setIfInBounds_toArray,List.set_cons_zero,List.set_cons_succ])
      refine wpAnyH_take (i:=10) (oi:={ dst:=some 5,op:=_,type:=_,pos:=_,after:=_,guard:=_ }) (v:=?vv6) rfl (by kernel_rfl) (by kernel_rfl) (by kernel_rfl) (fun _ _ _ h => h) (Or.inl ⟨by rfl,?hy6⟩) (by assumption) ?rest6
      case hy6 => (intro w hSw; (try dsimp only at hSw); go_simp; (first | done | with_reducible rfl))
      (try simp only [Act.put,List.setIfInBounds_toArray,List.set_cons_zero,List.set_cons_succ])
      refine wpAnyH_done (by kernel_rfl) ?_ _
      go_wp2_with fail
      refine bodyPost_ret (results_se2 rfl rfl b9 hcs) rfl ⟨cs,rfl,uh FIN w9 (fun D' e => by cases e; rfl) ((Stay.below (bdrew8 _) (by have:=(uh RQ).lt; omega)).trans s9)⟩
     ·skip
      have HE3:Hid ((if pb = false then some D else none) = R):=hide (by rw [← uh HE2]; simp [hx])
      clear HE2
      have t24:(x24 == 0) = false:=by simp [hx]
      have HX24:=hide hx
      clear hx
      cases pb
      ·skip
       rw [if_pos rfl] at HE3
       have hR:=uh HE3
       subst hR
       go_wp2_with fail
       refine wp_region_held_drew (S:=fun v => Box v g cs 49 ∧ v.cell? ⟨g,24,none⟩ = some (.int .i64 x24)) (by kernel_rfl) (uh HS0) (fun hHeld => ?_)
       refine wpAnyH_take (i:=0) (oi:={ dst:=some 72,op:=_,type:=_,pos:=_,after:=_,guard:=_ }) (v:=.agg cs) rfl (by kernel_rfl) (by kernel_rfl) (by kernel_rfl) (fun _ _ _ h => h) (yields_load8 (by rfl) _ rfl rfl (fun v hv => hv.1) hcs) (by assumption) ?_
       (try simp only [Act.put,List.setIfInBounds_toArray,List.set_cons_zero,List.set_cons_succ])
       refine wpAnyH_take (i:=1) (oi:={ dst:=some 73,op:=_,type:=_,pos:=_,after:=_,guard:=_ }) (v:=?vv7) rfl (by kernel_rfl) (by kernel_rfl) (by kernel_rfl) (fun _ _ _ h => h) (Or.inl ⟨by rfl,?hy7⟩) (by assumption) ?rest7
       case hy7 => (intro w hSw; (try dsimp only at hSw); go_simp; (first | done | with_reducible rfl))
       (try simp only [Act.put,List.setIfInBounds_toArray,List.set_cons_zero,List.set_cons_succ])
       refine wpAnyH_take (i:=2) (oi:={ dst:=some 74,op:=_,type:=_,pos:=_,after:=_,guard:=_ }) (v:=?vv8) rfl (by kernel_rfl) (by kernel_rfl) (by kernel_rfl) (fun _ _ _ h => h) (Or.inl ⟨by rfl,?hy8⟩) (by assumption) ?rest8
       case hy8 => (intro w hSw; (try dsimp only at hSw); go_simp; (first | done | with_reducible rfl))
       (try simp only [Act.put,List.setIfInBounds_toArray,List.set_cons_zero,List.set_cons_succ])
       refine wpAnyH_take (i:=3) (oi:={ dst:=some 75,op:=_,type:=_,pos:=_,after:=_,guard:=_ }) (v:=?vv9) rfl (by kernel_rfl) (by kernel_rfl) (by kernel_rfl) (fun _ _ _ h => h) (Or.inl ⟨by rfl,?hy9⟩) (by assumption) ?rest9
       case hy9 => (intro w hSw; (try dsimp only at hSw); go_simp; (first | done | with_reducible rfl))
       (try simp only [Act.put,List.setIfInBounds_toArray,List.set_cons_zero,List.set_cons_succ])
       refine wpAnyH_take (i:=4) (oi:={ dst:=some 76,op:=_,type:=_,pos:=_,after:=_,guard:=_ }) (v:=?vv10) rfl (by kernel_rfl) (by kernel_rfl) (by kernel_rfl) (fun _ _ _ h => h) (Or.inl ⟨by rfl,?hy10⟩) (by assumption) ?rest10
       case hy10 => (intro w hSw; (try dsimp only at hSw); go_simp; (first | done | with_reducible rfl))
       (try simp only [Act.put,List.setIfInBounds_toArray,List.set_cons_zero,List.set_cons_succ])
       refine wpAnyH_take (i:=5) (oi:={ dst:=some 77,op:=_,type:=_,pos:=_,after:=_,guard:=_ }) (v:=?vv11) rfl (by kernel_rfl) (by kernel_rfl) (by kernel_rfl) (fun _ _ _ h => h) (Or.inl ⟨by rfl,?hy11⟩) (by assumption) ?rest11
       case hy11 => (intro w hSw; (try dsimp only at hSw); go_simp; (first | done | with_reducible rfl))
       (try simp only [Act.put,List.setIfInBounds_toArray,List.set_cons_zero,List.set_cons_succ])
       refine wpAnyH_ready (rs:=[6]) (by kernel_rfl) (by simp) ?_
       refine AllReadyH.cons (o:={ dst:=some 78,op:=_,type:=_,pos:=_,after:=_,guard:=_ }) rfl (fun K hK => ?_) AllReadyH.nil
       go_simp
       refine (uh CH).mono ?_
       rintro e w8 ⟨rfl,hb8⟩
       have B8:=hide hb8
       clear hb8
       refine hK.out _ _ ⟨(uh HS0).1.below (uh B8),((((uh HS0).1.below (uh B8)).cell 24).trans (uh HC24))⟩ (fun hHeld2 => ?_)
       clear hK K hHeld
       (try simp only [Act.put,List.setIfInBounds_toArray,List.set_cons_zero,List.set_cons_succ])
       refine wpAnyH_take (i:=7) (oi:={ dst:=some 79,op:=_,type:=_,pos:=_,after:=_,guard:=_ }) (v:=?vv12) rfl (by kernel_rfl) (by kernel_rfl) (by kernel_rfl) (fun _ _ _ h => h) (Or.inl ⟨by rfl,?hy12⟩) (by assumption) ?rest12
       case hy12 => (intro w hSw; (try dsimp only at hSw); go_simp; (first | done | with_reducible rfl))
       (try simp only [Act.put,List.setIfInBounds_toArray,List.set_cons_zero,List.set_cons_succ])
       refine wpAnyH_take (i:=8) (oi:={ dst:=some 80,op:=_,type:=_,pos:=_,after:=_,guard:=_ }) (v:=?vv13) rfl (by kernel_rfl) (by kernel_rfl) (by kernel_rfl) (fun _ _ _ h => h) (Or.inl ⟨by rfl,?hy13⟩) (by assumption) ?rest13
       case hy13 => (intro w hSw; (try dsimp only at hSw); go_simp; (first | done | with_reducible rfl))
       (try simp only [Act.put,List.setIfInBounds_toArray,List.set_cons_zero,List.set_cons_succ])
       refine wpAnyH_ready (rs:=[9]) (by kernel_rfl) (by simp) ?_
       refine AllReadyH.cons (o:={ dst:=none,op:=_,type:=_,pos:=_,after:=_,guard:=_ }) rfl (fun K hK => ?_) AllReadyH.nil
       rw [if_pos (by rfl)]
       refine wp_store8 _ _ rfl rfl rfl (((uh RQ).below (bdrew8 _)).below (uh B8)) hcs rfl (uh ON) ?_
       intro w9 b9 s9 z9
       refine hK.out _ _ ⟨s9.box (((uh HS0).1.below (uh B8))) (uh NE).symm,(((s9.box (((uh HS0).1.below (uh B8))) (uh NE).symm).cell 24).trans (uh HC24))⟩ (fun hHeld3 => ?_)
       clear hK K
       (try simp only [Act.put,List.setIfInBounds_toArray,List.set_cons_zero,List.set_cons_succ])
       refine wpAnyH_take (i:=10) (oi:={ dst:=some 5,op:=_,type:=_,pos:=_,after:=_,guard:=_ }) (v:=?vv14) rfl (by kernel_rfl) (by kernel_rfl) (by kernel_rfl) (fun _ _ _ h => h) (Or.inl ⟨by rfl,?hy14⟩) (by assumption) ?rest14
       case hy14 => (intro w hSw; (try dsimp only at hSw); go_simp; (first | done | with_reducible rfl))
       (try simp only [Act.put,List.setIfInBounds_toArray,List.set_cons_zero,List.set_cons_succ])
       refine wpAnyH_done (by kernel_rfl) ?_ _
       go_wp2_with fail
       refine bodyPost_ret (results_se2 rfl rfl b9 hcs) rfl ⟨cs,rfl,uh FIN w9 (fun D' e => by cases e; rfl) ((Stay.below (bl_tr (bdrew8 _) (uh B8)) (by have:=(uh RQ).lt; omega)).trans s9)⟩
      ·skip
       rw [if_neg (by decide)] at HE3
       have hR:=uh HE3
       subst hR
       go_wp2_with fail
       refine wp_region_held_drew (S:=fun v => Box v g cs 49 ∧ v.cell? ⟨g,24,none⟩ = some (.int .i64 x24)) (by kernel_rfl) (uh HS0) (fun hHeld => ?_)
       refine wpAnyH_take (i:=0) (oi:={ dst:=some 72,op:=_,type:=_,pos:=_,after:=_,guard:=_ }) (v:=.agg cs) rfl (by kernel_rfl) (by kernel_rfl) (by kernel_rfl) (fun _ _ _ h => h) (yields_load8 (by rfl) _ rfl rfl (fun v hv => hv.1) hcs) (by assumption) ?_
       (try simp only [Act.put,List.setIfInBounds_toArray,List.set_cons_zero,List.set_cons_succ])
       refine wpAnyH_take (i:=1) (oi:={ dst:=some 73,op:=_,type:=_,pos:=_,after:=_,guard:=_ }) (v:=?vv15) rfl (by kernel_rfl) (by kernel_rfl) (by kernel_rfl) (fun _ _ _ h => h) (Or.inl ⟨by rfl,?hy15⟩) (by assumption) ?rest15
       case hy15 => (intro w hSw; (try dsimp only at hSw); go_simp; (first | done | with_reducible rfl))
       (try simp only [Act.put,List.setIfInBounds_toArray,List.set_cons_zero,List.set_cons_succ])
       refine wpAnyH_take (i:=2) (oi:={ dst:=some 74,op:=_,type:=_,pos:=_,after:=_,guard:=_ }) (v:=?vv16) rfl (by kernel_rfl) (by kernel_rfl) (by kernel_rfl) (fun _ _ _ h => h) (Or.inl ⟨by rfl,?hy16⟩) (by assumption) ?rest16
       case hy16 => (intro w hSw; (try dsimp only at hSw); go_simp; (first | done | with_reducible rfl))
       (try simp only [Act.put,List.setIfInBounds_toArray,List.set_cons_zero,List.set_cons_succ])
       refine wpAnyH_take (i:=3) (oi:={ dst:=some 75,op:=_,type:=_,pos:=_,after:=_,guard:=_ }) (v:=?vv17) rfl (by kernel_rfl) (by kernel_rfl) (by kernel_rfl) (fun _ _ _ h => h) (Or.inl ⟨by rfl,?hy17⟩) (by assumption) ?rest17
       case hy17 => (intro w hSw; (try dsimp only at hSw); go_simp; (first | done | with_reducible rfl))
       (try simp only [Act.put,List.setIfInBounds_toArray,List.set_cons_zero,List.set_cons_succ])
       refine wpAnyH_take (i:=4) (oi:={ dst:=some 76,op:=_,type:=_,pos:=_,after:=_,guard:=_ }) (v:=?vv18) rfl (by kernel_rfl) (by kernel_rfl) (by kernel_rfl) (fun _ _ _ h => h) (Or.inl ⟨by rfl,?hy18⟩) (by assumption) ?rest18
       case hy18 => (intro w hSw; (try dsimp only at hSw); go_simp; (first | done | with_reducible rfl))
       (try simp only [Act.put,List.setIfInBounds_toArray,List.set_cons_zero,List.set_cons_succ])
       refine wpAnyH_take (i:=5) (oi:={ dst:=some 77,op:=_,type:=_,pos:=_,after:=_,guard:=_ }) (v:=?vv19) rfl (by kernel_rfl) (by kernel_rfl) (by kernel_rfl) (fun _ _ _ h => h) (Or.inl ⟨by rfl,?hy19⟩) (by assumption) ?rest19
       case hy19 => (intro w hSw; (try dsimp only at hSw); go_simp; (first | done | with_reducible rfl))
       (try simp only [Act.put,List.setIfInBounds_toArray,List.set_cons_zero,List.set_cons_succ])
       refine wpAnyH_ready (rs:=[6]) (by kernel_rfl) (by simp) ?_
       refine AllReadyH.cons (o:={ dst:=some 78,op:=_,type:=_,pos:=_,after:=_,guard:=_ }) rfl (fun K hK => ?_) AllReadyH.nil
       go_simp
       refine (uh CH).mono ?_
       rintro e w8 ⟨rfl,hb8⟩
       have B8:=hide hb8
       clear hb8
       refine hK.out _ _ ⟨(uh HS0).1.below (uh B8),((((uh HS0).1.below (uh B8)).cell 24).trans (uh HC24))⟩ (fun hHeld2 => ?_)
       clear hK K hHeld
       (try simp only [Act.put,List.setIfInBounds_toArray,List.set_cons_zero,List.set_cons_succ])
       refine wpAnyH_take (i:=7) (oi:={ dst:=some 79,op:=_,type:=_,pos:=_,after:=_,guard:=_ }) (v:=?vv20) rfl (by kernel_rfl) (by kernel_rfl) (by kernel_rfl) (fun _ _ _ h => h) (Or.inl ⟨by rfl,?hy20⟩) (by assumption) ?rest20
       case hy20 => (intro w hSw; (try dsimp only at hSw); go_simp; (first | done | with_reducible rfl))
       (try simp only [Act.put,List.setIfInBounds_toArray,List.set_cons_zero,List.set_cons_succ])
       refine wpAnyH_take (i:=8) (oi:={ dst:=some 80,op:=_,type:=_,pos:=_,after:=_,guard:=_ }) (v:=?vv21) rfl (by kernel_rfl) (by kernel_rfl) (by kernel_rfl) (fun _ _ _ h => h) (Or.inl ⟨by rfl,?hy21⟩) (by assumption) ?rest21
       case hy21 => (intro w hSw; (try dsimp only at hSw); go_simp; (first | done | with_reducible rfl))
       (try simp only [Act.put,List.setIfInBounds_toArray,List.set_cons_zero,List.set_cons_succ])
       refine wpAnyH_ready (rs:=[9]) (by kernel_rfl) (by simp) ?_
       refine AllReadyH.cons (o:={ dst:=none,op:=_,type:=_,pos:=_,after:=_,guard:=_ }) rfl (fun K hK => ?_) AllReadyH.nil
       rw [if_pos (by rfl)]
       refine wp_store8 _ _ rfl rfl rfl (((uh RQ).below (bdrew8 _)).below (uh B8)) hcs rfl (uh ON) ?_
       intro w9 b9 s9 z9
       refine hK.out _ _ ⟨s9.box (((uh HS0).1.below (uh B8))) (uh NE).symm,(((s9.box (((uh HS0).1.below (uh B8))) (uh NE).symm).cell 24).trans (uh HC24))⟩ (fun hHeld3 => ?_)
       clear hK K
       (try simp only [Act.put,List.setIfInBounds_toArray,List.set_cons_zero,List.set_cons_succ])
       refine wpAnyH_take (i:=10) (oi:={ dst:=some 5,op:=_,type:=_,pos:=_,after:=_,guard:=_ }) (v:=?vv22) rfl (by kernel_rfl) (by kernel_rfl) (by kernel_rfl) (fun _ _ _ h => h) (Or.inl ⟨by rfl,?hy22⟩) (by assumption) ?rest22
       case hy22 => (intro w hSw; (try dsimp only at hSw); go_simp; (first | done | with_reducible rfl))
       (try simp only [Act.put,List.setIfInBounds_toArray,List.set_cons_zero,List.set_cons_succ])
       refine wpAnyH_done (by kernel_rfl) ?_ _
       go_wp2_with fail
       refine bodyPost_ret (results_se2 rfl rfl b9 hcs) rfl ⟨cs,rfl,uh FIN w9 (fun D' e => by cases e) ((Stay.below (bl_tr (bdrew8 _) (uh B8)) (by have:=(uh RQ).lt; omega)).trans s9)⟩
end Go.Proofs.YtbmmcbagdomonaaGreat
