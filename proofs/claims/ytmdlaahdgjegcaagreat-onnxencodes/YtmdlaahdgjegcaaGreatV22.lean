import Derived.Test.YtmdlaahdgjegcaaGreatV19
set_option maxRecDepth 100000
set_option maxHeartbeats 8000000
namespace Go.Proofs.YtmdlaahdgjegcaaGreat
open Go.RowKit
set_option linter.unusedVariables false
theorem map_take7 {α β:Type} (f:α → β) (z:α) (l:List α) (n:Nat) (h:n < l.length):(l.take (n + 1)).map f = (l.take n).map f ++ [f (l.getD n z)]:=by
 rw [List.take_add_one,List.map_append,List.getD_eq_getElem?_getD,List.getElem?_eq_getElem h]; rfl
theorem msg_pre7 {α:Type} (fs:List Fld) (f:α → Fld) (l:List α) (n:Nat):(msgB (fs ++ (l.take n).map f)).length ≤ (msgB (fs ++ l.map f)).length:=by
 have e:l.map f = (l.take n).map f ++ (l.drop n).map f:=by rw [← List.map_append,List.take_append_drop]
 rw [e,← List.append_assoc,msg_app (fs ++ (l.take n).map f) _,List.length_append]
 omega
theorem WrIn.open {g:Nat} {w:World} {fs:List Fld} (h:WrIn g w fs):∃ v full,Box w g #[v,.bool full] 93 ∧ (full = true → 4194304 < (msgB fs).length):=by
 obtain ⟨v,bs,full,a,b,c,d,e⟩:=h
 exact ⟨v,full,a,fun hf => by subst hf; exact c.isFull⟩
theorem KeptW.rc {β:Type} {k:Nat} {cells:β → List Value} {z:β} {t:TypeId} {B g:Nat} {w w':World} {p:Option Addr} {c:Nat} {l:List β} (h:KeptW g w w') (hB:B ≤ g) (h1:t ≠ 5) (h2:t ≠ 93) (hr:Rc k cells z w p c l) (ht:Tag t B w p l.length):Rc k cells z w' p c l :=
 hr.kept ht (TS:=[t]) (by simp) (h.kept hB (by simp [Ne.symm h1]) (by simp [Ne.symm h2]))
theorem KeptW.ls {α:Type} [Inhabited α] {f:α → Value} {t:TypeId} {B g:Nat} {w w':World} {p:Option Addr} {c:Nat} {l:List α} (h:KeptW g w w') (hB:B ≤ g) (h1:t ≠ 5) (h2:t ≠ 93) (hr:Ls f w p c l) (ht:Tag t B w p l.length):Ls f w' p c l :=
 hr.kept ht (TS:=[t]) (by simp) (h.kept hB (by simp [Ne.symm h1]) (by simp [Ne.symm h2]))
theorem ceach1Node_any (K:FuncId) (hK:Ent K) (x:NoA) (gin gb ge:Nat) (F:List Fld) (w:World) (hb:Box w gb #[.func (.func K) #[] #[]] 151) (he:Box w ge #[.string (strOfNums x.op),.string (strOfNums x.nm),.slice x.qi x.ins.length x.ci,.slice x.qo x.outs.length x.co,.slice x.qa x.at'.length x.ca] 75)
  (H:Calls Tryz.prog K #[.pointer (some ⟨gin,0,none⟩),.agg (noCells x).toArray] w fun e w' => WEnd gin w F e w') :
  Calls Tryz.prog 150 #[.pointer (some ⟨gin,0,none⟩),.pointer (some ⟨gb,0,none⟩),.pointer (some ⟨ge,0,none⟩)] w fun e w' => WEnd gin w F e w':=by
 have hk:∀ (args:Array Value) (v:World),(callFunc K args).run Tryz.prog v = .ok (.enter K args) v:=hK
 have HX:=hide H
 have x0:=hb.cell
 have x1:=he.cell
 clear H hb he hK
 unfold noCells strV at HX
 go_enter Tryz.func150,Tryz.ntmps150
 go_wp2_with fail
 refine (uh HX).mono ?_
 rintro e v ⟨rfl,hv1,hv2⟩
 have H1:=hide hv1
 have H2:=hide hv2
 clear hv1 hv2 HX
 go_wp2_with fail
 go_end0
 exact ⟨rfl,uh H1,uh H2⟩
theorem ceachNode_any (g B:Nat) (fs:List Fld) (num:Int) (K:FuncId) (hK:Ent K) (F:NoA → List Fld) (p:Option Addr) (c:Nat) (l:List NoA) (w:World) (hW:WrIn g w fs) (h:Rc 5 noCells noNoA w p c l) (ht:Tag 75 B w p l.length) (hB:B ≤ g) (h1:1 ≤ num) (h2:num ≤ 536870911)
  (H:∀ v gin,KeptW g w v → g ≤ gin → WrIn gin v [] → ∀ x ∈ l,Calls Tryz.prog K #[.pointer (some ⟨gin,0,none⟩),.agg (noCells x).toArray] v fun e w' => WEnd gin v (F x) e w') :
  Calls Tryz.prog 96 #[.pointer (some ⟨g,0,none⟩),.int .i64 num,.slice p l.length c,.func (.func K) #[] #[]] w fun e w' => WEnd g w (fs ++ l.map fun x => blkF num (msgB (F x))) e w':=by
 have HH:=hide H
 have HE:=hide hK
 have A1:=hide (fun v (hv:KeptW g w v) => hv.rc hB (by decide) (by decide) h ht)
 have nl:=h.len
 have gl:=hW.lt
 have HW:=hide hW
 clear h H hW hK
 go_enter Tryz.func96,Tryz.ntmps96
 go_wp2_with fail
 obtain ⟨W,hWe⟩:∃ W,(w.alloc (Obj.cells #[.func (.func K) #[] #[]] 151)) = W:=⟨_,rfl⟩
 have BX:Hid (Box W w.heap.size #[.func (.func K) #[] #[]] 151):=hide (by rw [← hWe]; exact Box.new w _ _)
 have BW:Hid (KeptW g w W):=hide (by rw [← hWe]; exact KeptW.below (al1p _ _) (by omega))
 have BL:Hid (WrIn g W fs):=hide (by rw [← hWe]; exact (uh HW).below (al1p _ _))
 rw [hWe]
 clear hWe
 go_loopw [12] (fun iv wr => ∃ n:Nat,iv = .int .i64 n ∧ n ≤ l.length ∧ Hid (WrIn g wr (fs ++ (l.take n).map fun x => blkF num (msgB (F x)))) ∧ Hid (KeptW g W wr)) (fun iv _ => l.length - (intOf iv).toNat)
 case atStart => exact ⟨0,rfl,by omega,hide (by rw [List.take_zero,List.map_nil,List.append_nil]; exact uh BL),hide (KeptW.refl _ _)⟩
 case round =>
  obtain ⟨n,rfl,hn,HN,HB⟩:=hrel
  by_cases hlt:n < l.length
  ·have hi:(n:Int) < (l.length:Int):=by omega
   obtain ⟨b,o,rfl,hb,hc⟩:=(uh A1 _ ((uh BW).trans (uh HB))).lies (by omega)
   have k0:wr.cell? ⟨b,o + n * 5,none⟩ = some (strV (l.getD n noNoA).op):=hc n hlt 0 _ rfl
   have k1:wr.cell? ⟨b,o + n * 5 + 1,none⟩ = some (strV (l.getD n noNoA).nm):=hc n hlt 1 _ rfl
   have k2:wr.cell? ⟨b,o + n * 5 + 2,none⟩ = some (.slice (l.getD n noNoA).qi (l.getD n noNoA).ins.length (l.getD n noNoA).ci):=hc n hlt 2 _ rfl
   have k3:wr.cell? ⟨b,o + n * 5 + 3,none⟩ = some (.slice (l.getD n noNoA).qo (l.getD n noNoA).outs.length (l.getD n noNoA).co):=hc n hlt 3 _ rfl
   have k4:wr.cell? ⟨b,o + n * 5 + 4,none⟩ = some (.slice (l.getD n noNoA).qa (l.getD n noNoA).at'.length (l.getD n noNoA).ca):=hc n hlt 4 _ rfl
   have HX:=hide (fun v gin (hv:KeptW g W v) hgg hg => uh HH v gin ((uh BW).trans hv) hgg hg (l.getD n noNoA) (getD_mem7 hlt))
   have HT:=hide (map_take7 (fun x => blkF num (msgB (F x))) noNoA l n hlt)
   have HP:=hide (msg_pre7 fs (fun x => blkF num (msgB (F x))) l n)
   have grl:=(uh HN).lt
   generalize F (l.getD n noNoA) = FX at HX HT
   generalize l.getD n noNoA = a at k0 k1 k2 k3 k4 HX
   unfold strV at k0 k1
   clear hc
   have BG:=hide ((uh HB).box (by decide) (by decide) (uh BX))
   have hgb:=(uh BG).lt
   obtain ⟨vw,full,bx,hfull⟩:=(uh HN).open
   have x2:=(bx.alloc (Obj.cells #[.string (strOfNums a.op),.string (strOfNums a.nm),.slice a.qi a.ins.length a.ci,.slice a.qo a.outs.length a.co,.slice a.qa a.at'.length a.ca] 75)).cell
   have HF:=hide hfull
   clear hfull bx
   cases full
   ·have CI:=hide (cinner_any g _ FX num 150 (ent_of Tryz.func150 (by kernel_rfl) rfl) #[.pointer (some ⟨w.heap.size,0,none⟩),.pointer (some ⟨wr.heap.size,0,none⟩)] (wr.alloc (Obj.cells #[.string (strOfNums a.op),.string (strOfNums a.nm),.slice a.qi a.ins.length a.ci,.slice a.qo a.outs.length a.co,.slice a.qa a.at'.length a.ca] 75)) ((uh HN).below (al1p _ _)) (fun v gin hv hg hw => ceach1Node_any K (uh HE) a gin w.heap.size wr.heap.size FX v (((uh BG).alloc _).below hv) ((Box.new wr _ _).below hv) (uh HX v gin (((uh HB).trans (KeptW.below (al1p _ _) (by omega))).trans (KeptW.below hv (by simp; omega))) (by simp only [alloc_size6] at hg; omega) hw)) h1 h2)
    go_wp2_with fail
    refine (uh CI).mono ?_
    rintro e w1 ⟨rfl,hv1,hv2⟩
    rw [List.append_assoc,← uh HT] at hv1
    have H1:=hide hv1
    have H2:=hide (((uh HB).trans (KeptW.below (al1p _ _) (by omega))).trans hv2)
    clear hv1 hv2 CI HX
    go_wp2_with fail
    go_roundw
    case rel => exact ⟨n + 1,by go_num,by omega,H1,H2⟩
    case measure => simp [intOf]; omega
   ·have HV:=hide ((uh HN).over (uh HF rfl) (Nat.lt_of_lt_of_le (uh HF rfl) (uh HP)))
    go_wp2_with fail
    refine bodyPost_ret (v:=.tuple #[]) (results_none rfl _ _ _) rfl ?_
    exact ⟨rfl,(uh HV).below (al1p _ _),((uh BW).trans (uh HB)).trans (KeptW.below (al1p _ _) (by omega))⟩
  ·have hi:¬ (n:Int) < (l.length:Int):=by omega
   have H1:Hid (WrIn g wr (fs ++ l.map fun x => blkF num (msgB (F x)))):=hide (by have:=uh HN; rw [List.take_of_length_le (by omega)] at this; exact this)
   have H2:=hide ((uh BW).trans (uh HB))
   clear HN
   go_wp2_with fail
   go_end0
   exact ⟨rfl,uh H1,uh H2⟩
theorem ceach1Init_any (K:FuncId) (hK:Ent K) (x:InA) (gin gb ge:Nat) (F:List Fld) (w:World) (hb:Box w gb #[.func (.func K) #[] #[]] 154) (he:Box w ge #[.string (strOfNums x.nm),.int .i64 x.T.1,.slice x.A.pd x.T.2.1.length x.A.cd,.slice x.A.pf x.T.2.2.1.length x.A.cf,.slice x.A.pi x.T.2.2.2.1.length x.A.ci,.slice x.A.pb x.T.2.2.2.2.length x.A.cb] 82)
  (H:Calls Tryz.prog K #[.pointer (some ⟨gin,0,none⟩),.agg (inCells x).toArray] w fun e w' => WEnd gin w F e w') :
  Calls Tryz.prog 154 #[.pointer (some ⟨gin,0,none⟩),.pointer (some ⟨gb,0,none⟩),.pointer (some ⟨ge,0,none⟩)] w fun e w' => WEnd gin w F e w':=by
 have hk:∀ (args:Array Value) (v:World),(callFunc K args).run Tryz.prog v = .ok (.enter K args) v:=hK
 have HX:=hide H
 have x0:=hb.cell
 have x1:=he.cell
 clear H hb he hK
 unfold inCells tenCells strV at HX
 go_enter Tryz.func154,Tryz.ntmps154
 go_wp2_with fail
 refine (uh HX).mono ?_
 rintro e v ⟨rfl,hv1,hv2⟩
 have H1:=hide hv1
 have H2:=hide hv2
 clear hv1 hv2 HX
 go_wp2_with fail
 go_end0
 exact ⟨rfl,uh H1,uh H2⟩
theorem ceachInit_any (g B:Nat) (fs:List Fld) (num:Int) (K:FuncId) (hK:Ent K) (F:InA → List Fld) (p:Option Addr) (c:Nat) (l:List InA) (w:World) (hW:WrIn g w fs) (h:Rc 6 inCells noInA w p c l) (ht:Tag 82 B w p l.length) (hB:B ≤ g) (h1:1 ≤ num) (h2:num ≤ 536870911)
  (H:∀ v gin,KeptW g w v → g ≤ gin → WrIn gin v [] → ∀ x ∈ l,Calls Tryz.prog K #[.pointer (some ⟨gin,0,none⟩),.agg (inCells x).toArray] v fun e w' => WEnd gin v (F x) e w') :
  Calls Tryz.prog 99 #[.pointer (some ⟨g,0,none⟩),.int .i64 num,.slice p l.length c,.func (.func K) #[] #[]] w fun e w' => WEnd g w (fs ++ l.map fun x => blkF num (msgB (F x))) e w':=by
 have HH:=hide H
 have HE:=hide hK
 have A1:=hide (fun v (hv:KeptW g w v) => hv.rc hB (by decide) (by decide) h ht)
 have nl:=h.len
 have gl:=hW.lt
 have HW:=hide hW
 clear h H hW hK
 go_enter Tryz.func99,Tryz.ntmps99
 go_wp2_with fail
 obtain ⟨W,hWe⟩:∃ W,(w.alloc (Obj.cells #[.func (.func K) #[] #[]] 154)) = W:=⟨_,rfl⟩
 have BX:Hid (Box W w.heap.size #[.func (.func K) #[] #[]] 154):=hide (by rw [← hWe]; exact Box.new w _ _)
 have BW:Hid (KeptW g w W):=hide (by rw [← hWe]; exact KeptW.below (al1p _ _) (by omega))
 have BL:Hid (WrIn g W fs):=hide (by rw [← hWe]; exact (uh HW).below (al1p _ _))
 rw [hWe]
 clear hWe
 go_loopw [12] (fun iv wr => ∃ n:Nat,iv = .int .i64 n ∧ n ≤ l.length ∧ Hid (WrIn g wr (fs ++ (l.take n).map fun x => blkF num (msgB (F x)))) ∧ Hid (KeptW g W wr)) (fun iv _ => l.length - (intOf iv).toNat)
 case atStart => exact ⟨0,rfl,by omega,hide (by rw [List.take_zero,List.map_nil,List.append_nil]; exact uh BL),hide (KeptW.refl _ _)⟩
 case round =>
  obtain ⟨n,rfl,hn,HN,HB⟩:=hrel
  by_cases hlt:n < l.length
  ·have hi:(n:Int) < (l.length:Int):=by omega
   obtain ⟨b,o,rfl,hb,hc⟩:=(uh A1 _ ((uh BW).trans (uh HB))).lies (by omega)
   have k0:wr.cell? ⟨b,o + n * 6,none⟩ = some (strV (l.getD n noInA).nm):=hc n hlt 0 _ rfl
   have k1:wr.cell? ⟨b,o + n * 6 + 1,none⟩ = some (.int .i64 (l.getD n noInA).T.1):=hc n hlt 1 _ rfl
   have k2:wr.cell? ⟨b,o + n * 6 + 2,none⟩ = some (.slice (l.getD n noInA).A.pd (l.getD n noInA).T.2.1.length (l.getD n noInA).A.cd):=hc n hlt 2 _ rfl
   have k3:wr.cell? ⟨b,o + n * 6 + 3,none⟩ = some (.slice (l.getD n noInA).A.pf (l.getD n noInA).T.2.2.1.length (l.getD n noInA).A.cf):=hc n hlt 3 _ rfl
   have k4:wr.cell? ⟨b,o + n * 6 + 4,none⟩ = some (.slice (l.getD n noInA).A.pi (l.getD n noInA).T.2.2.2.1.length (l.getD n noInA).A.ci):=hc n hlt 4 _ rfl
   have k5:wr.cell? ⟨b,o + n * 6 + 5,none⟩ = some (.slice (l.getD n noInA).A.pb (l.getD n noInA).T.2.2.2.2.length (l.getD n noInA).A.cb):=hc n hlt 5 _ rfl
   have HX:=hide (fun v gin (hv:KeptW g W v) hgg hg => uh HH v gin ((uh BW).trans hv) hgg hg (l.getD n noInA) (getD_mem7 hlt))
   have HT:=hide (map_take7 (fun x => blkF num (msgB (F x))) noInA l n hlt)
   have HP:=hide (msg_pre7 fs (fun x => blkF num (msgB (F x))) l n)
   have grl:=(uh HN).lt
   generalize F (l.getD n noInA) = FX at HX HT
   generalize l.getD n noInA = a at k0 k1 k2 k3 k4 k5 HX
   unfold strV at k0
   clear hc
   have BG:=hide ((uh HB).box (by decide) (by decide) (uh BX))
   have hgb:=(uh BG).lt
   obtain ⟨vw,full,bx,hfull⟩:=(uh HN).open
   have x2:=(bx.alloc (Obj.cells #[.string (strOfNums a.nm),.int .i64 a.T.1,.slice a.A.pd a.T.2.1.length a.A.cd,.slice a.A.pf a.T.2.2.1.length a.A.cf,.slice a.A.pi a.T.2.2.2.1.length a.A.ci,.slice a.A.pb a.T.2.2.2.2.length a.A.cb] 82)).cell
   have HF:=hide hfull
   clear hfull bx
   cases full
   ·have CI:=hide (cinner_any g _ FX num 154 (ent_of Tryz.func154 (by kernel_rfl) rfl) #[.pointer (some ⟨w.heap.size,0,none⟩),.pointer (some ⟨wr.heap.size,0,none⟩)] (wr.alloc (Obj.cells #[.string (strOfNums a.nm),.int .i64 a.T.1,.slice a.A.pd a.T.2.1.length a.A.cd,.slice a.A.pf a.T.2.2.1.length a.A.cf,.slice a.A.pi a.T.2.2.2.1.length a.A.ci,.slice a.A.pb a.T.2.2.2.2.length a.A.cb] 82)) ((uh HN).below (al1p _ _)) (fun v gin hv hg hw => ceach1Init_any K (uh HE) a gin w.heap.size wr.heap.size FX v (((uh BG).alloc _).below hv) ((Box.new wr _ _).below hv) (uh HX v gin (((uh HB).trans (KeptW.below (al1p _ _) (by omega))).trans (KeptW.below hv (by simp; omega))) (by simp only [alloc_size6] at hg; omega) hw)) h1 h2)
    go_wp2_with fail
    refine (uh CI).mono ?_
    rintro e w1 ⟨rfl,hv1,hv2⟩
    rw [List.append_assoc,← uh HT] at hv1
    have H1:=hide hv1
    have H2:=hide (((uh HB).trans (KeptW.below (al1p _ _) (by omega))).trans hv2)
    clear hv1 hv2 CI HX
    go_wp2_with fail
    go_roundw
    case rel => exact ⟨n + 1,by go_num,by omega,H1,H2⟩
    case measure => simp [intOf]; omega
   ·have HV:=hide ((uh HN).over (uh HF rfl) (Nat.lt_of_lt_of_le (uh HF rfl) (uh HP)))
    go_wp2_with fail
    refine bodyPost_ret (v:=.tuple #[]) (results_none rfl _ _ _) rfl ?_
    exact ⟨rfl,(uh HV).below (al1p _ _),((uh BW).trans (uh HB)).trans (KeptW.below (al1p _ _) (by omega))⟩
  ·have hi:¬ (n:Int) < (l.length:Int):=by omega
   have H1:Hid (WrIn g wr (fs ++ l.map fun x => blkF num (msgB (F x)))):=hide (by have:=uh HN; rw [List.take_of_length_le (by omega)] at this; exact this)
   have H2:=hide ((uh BW).trans (uh HB))
   clear HN
   go_wp2_with fail
   go_end0
   exact ⟨rfl,uh H1,uh H2⟩
theorem ceach1Value_any (K:FuncId) (hK:Ent K) (x:VaA) (gin gb ge:Nat) (F:List Fld) (w:World) (hb:Box w gb #[.func (.func K) #[] #[]] 156) (he:Box w ge #[.string (strOfNums x.nm),.int .i64 x.ty,.slice x.q x.ds.length x.c] 52)
  (H:Calls Tryz.prog K #[.pointer (some ⟨gin,0,none⟩),.agg (vaCells x).toArray] w fun e w' => WEnd gin w F e w') :
  Calls Tryz.prog 158 #[.pointer (some ⟨gin,0,none⟩),.pointer (some ⟨gb,0,none⟩),.pointer (some ⟨ge,0,none⟩)] w fun e w' => WEnd gin w F e w':=by
 have hk:∀ (args:Array Value) (v:World),(callFunc K args).run Tryz.prog v = .ok (.enter K args) v:=hK
 have HX:=hide H
 have x0:=hb.cell
 have x1:=he.cell
 clear H hb he hK
 unfold vaCells strV at HX
 go_enter Tryz.func158,Tryz.ntmps158
 go_wp2_with fail
 refine (uh HX).mono ?_
 rintro e v ⟨rfl,hv1,hv2⟩
 have H1:=hide hv1
 have H2:=hide hv2
 clear hv1 hv2 HX
 go_wp2_with fail
 go_end0
 exact ⟨rfl,uh H1,uh H2⟩
theorem ceachValue_any (g B:Nat) (fs:List Fld) (num:Int) (K:FuncId) (hK:Ent K) (F:VaA → List Fld) (p:Option Addr) (c:Nat) (l:List VaA) (w:World) (hW:WrIn g w fs) (h:Rc 3 vaCells noVaA w p c l) (ht:Tag 52 B w p l.length) (hB:B ≤ g) (h1:1 ≤ num) (h2:num ≤ 536870911)
  (H:∀ v gin,KeptW g w v → g ≤ gin → WrIn gin v [] → ∀ x ∈ l,Calls Tryz.prog K #[.pointer (some ⟨gin,0,none⟩),.agg (vaCells x).toArray] v fun e w' => WEnd gin v (F x) e w') :
  Calls Tryz.prog 101 #[.pointer (some ⟨g,0,none⟩),.int .i64 num,.slice p l.length c,.func (.func K) #[] #[]] w fun e w' => WEnd g w (fs ++ l.map fun x => blkF num (msgB (F x))) e w':=by
 have HH:=hide H
 have HE:=hide hK
 have A1:=hide (fun v (hv:KeptW g w v) => hv.rc hB (by decide) (by decide) h ht)
 have nl:=h.len
 have gl:=hW.lt
 have HW:=hide hW
 clear h H hW hK
 go_enter Tryz.func101,Tryz.ntmps101
 go_wp2_with fail
 obtain ⟨W,hWe⟩:∃ W,(w.alloc (Obj.cells #[.func (.func K) #[] #[]] 156)) = W:=⟨_,rfl⟩
 have BX:Hid (Box W w.heap.size #[.func (.func K) #[] #[]] 156):=hide (by rw [← hWe]; exact Box.new w _ _)
 have BW:Hid (KeptW g w W):=hide (by rw [← hWe]; exact KeptW.below (al1p _ _) (by omega))
 have BL:Hid (WrIn g W fs):=hide (by rw [← hWe]; exact (uh HW).below (al1p _ _))
 rw [hWe]
 clear hWe
 go_loopw [12] (fun iv wr => ∃ n:Nat,iv = .int .i64 n ∧ n ≤ l.length ∧ Hid (WrIn g wr (fs ++ (l.take n).map fun x => blkF num (msgB (F x)))) ∧ Hid (KeptW g W wr)) (fun iv _ => l.length - (intOf iv).toNat)
 case atStart => exact ⟨0,rfl,by omega,hide (by rw [List.take_zero,List.map_nil,List.append_nil]; exact uh BL),hide (KeptW.refl _ _)⟩
 case round =>
  obtain ⟨n,rfl,hn,HN,HB⟩:=hrel
  by_cases hlt:n < l.length
  ·have hi:(n:Int) < (l.length:Int):=by omega
   obtain ⟨b,o,rfl,hb,hc⟩:=(uh A1 _ ((uh BW).trans (uh HB))).lies (by omega)
   have k0:wr.cell? ⟨b,o + n * 3,none⟩ = some (strV (l.getD n noVaA).nm):=hc n hlt 0 _ rfl
   have k1:wr.cell? ⟨b,o + n * 3 + 1,none⟩ = some (.int .i64 (l.getD n noVaA).ty):=hc n hlt 1 _ rfl
   have k2:wr.cell? ⟨b,o + n * 3 + 2,none⟩ = some (.slice (l.getD n noVaA).q (l.getD n noVaA).ds.length (l.getD n noVaA).c):=hc n hlt 2 _ rfl
   have HX:=hide (fun v gin (hv:KeptW g W v) hgg hg => uh HH v gin ((uh BW).trans hv) hgg hg (l.getD n noVaA) (getD_mem7 hlt))
   have HT:=hide (map_take7 (fun x => blkF num (msgB (F x))) noVaA l n hlt)
   have HP:=hide (msg_pre7 fs (fun x => blkF num (msgB (F x))) l n)
   have grl:=(uh HN).lt
   generalize F (l.getD n noVaA) = FX at HX HT
   generalize l.getD n noVaA = a at k0 k1 k2 HX
   unfold strV at k0
   clear hc
   have BG:=hide ((uh HB).box (by decide) (by decide) (uh BX))
   have hgb:=(uh BG).lt
   obtain ⟨vw,full,bx,hfull⟩:=(uh HN).open
   have x2:=(bx.alloc (Obj.cells #[.string (strOfNums a.nm),.int .i64 a.ty,.slice a.q a.ds.length a.c] 52)).cell
   have HF:=hide hfull
   clear hfull bx
   cases full
   ·have CI:=hide (cinner_any g _ FX num 158 (ent_of Tryz.func158 (by kernel_rfl) rfl) #[.pointer (some ⟨w.heap.size,0,none⟩),.pointer (some ⟨wr.heap.size,0,none⟩)] (wr.alloc (Obj.cells #[.string (strOfNums a.nm),.int .i64 a.ty,.slice a.q a.ds.length a.c] 52)) ((uh HN).below (al1p _ _)) (fun v gin hv hg hw => ceach1Value_any K (uh HE) a gin w.heap.size wr.heap.size FX v (((uh BG).alloc _).below hv) ((Box.new wr _ _).below hv) (uh HX v gin (((uh HB).trans (KeptW.below (al1p _ _) (by omega))).trans (KeptW.below hv (by simp; omega))) (by simp only [alloc_size6] at hg; omega) hw)) h1 h2)
    go_wp2_with fail
    refine (uh CI).mono ?_
    rintro e w1 ⟨rfl,hv1,hv2⟩
    rw [List.append_assoc,← uh HT] at hv1
    have H1:=hide hv1
    have H2:=hide (((uh HB).trans (KeptW.below (al1p _ _) (by omega))).trans hv2)
    clear hv1 hv2 CI HX
    go_wp2_with fail
    go_roundw
    case rel => exact ⟨n + 1,by go_num,by omega,H1,H2⟩
    case measure => simp [intOf]; omega
   ·have HV:=hide ((uh HN).over (uh HF rfl) (Nat.lt_of_lt_of_le (uh HF rfl) (uh HP)))
    go_wp2_with fail
    refine bodyPost_ret (v:=.tuple #[]) (results_none rfl _ _ _) rfl ?_
    exact ⟨rfl,(uh HV).below (al1p _ _),((uh BW).trans (uh HB)).trans (KeptW.below (al1p _ _) (by omega))⟩
  ·have hi:¬ (n:Int) < (l.length:Int):=by omega
   have H1:Hid (WrIn g wr (fs ++ l.map fun x => blkF num (msgB (F x)))):=hide (by have:=uh HN; rw [List.take_of_length_le (by omega)] at this; exact this)
   have H2:=hide ((uh BW).trans (uh HB))
   clear HN
   go_wp2_with fail
   go_end0
   exact ⟨rfl,uh H1,uh H2⟩
theorem ceach1Attr_any (K:FuncId) (hK:Ent K) (x:AtA) (gin gb ge:Nat) (F:List Fld) (w:World) (hb:Box w gb #[.func (.func K) #[] #[]] 200) (he:Box w ge #[.string (strOfNums x.nm),.int .i64 x.kd,.int .u32 x.f,.int .i64 x.i,.string (strOfNums x.s),.int .i64 x.T.1,.slice x.A.pd x.T.2.1.length x.A.cd,.slice x.A.pf x.T.2.2.1.length x.A.cf,.slice x.A.pi x.T.2.2.2.1.length x.A.ci,.slice x.A.pb x.T.2.2.2.2.length x.A.cb,.slice x.qf x.fl.length x.cf,.slice x.qi x.is.length x.ci] 86)
  (H:Calls Tryz.prog K #[.pointer (some ⟨gin,0,none⟩),.agg (atCells x).toArray] w fun e w' => WEnd gin w F e w') :
  Calls Tryz.prog 207 #[.pointer (some ⟨gin,0,none⟩),.pointer (some ⟨gb,0,none⟩),.pointer (some ⟨ge,0,none⟩)] w fun e w' => WEnd gin w F e w':=by
 have hk:∀ (args:Array Value) (v:World),(callFunc K args).run Tryz.prog v = .ok (.enter K args) v:=hK
 have HX:=hide H
 have x0:=hb.cell
 have x1:=he.cell
 clear H hb he hK
 unfold atCells tenCells strV at HX
 simp only [List.cons_append,List.nil_append] at HX
 go_enter Tryz.func207,Tryz.ntmps207
 go_wp2_with fail
 refine (uh HX).mono ?_
 rintro e v ⟨rfl,hv1,hv2⟩
 have H1:=hide hv1
 have H2:=hide hv2
 clear hv1 hv2 HX
 go_wp2_with fail
 go_end0
 exact ⟨rfl,uh H1,uh H2⟩
theorem ceachAttr_any (g B:Nat) (fs:List Fld) (num:Int) (K:FuncId) (hK:Ent K) (F:AtA → List Fld) (p:Option Addr) (c:Nat) (l:List AtA) (w:World) (hW:WrIn g w fs) (h:Rc 12 atCells noAtA w p c l) (ht:Tag 86 B w p l.length) (hB:B ≤ g) (h1:1 ≤ num) (h2:num ≤ 536870911)
  (H:∀ v gin,KeptW g w v → g ≤ gin → WrIn gin v [] → ∀ x ∈ l,Calls Tryz.prog K #[.pointer (some ⟨gin,0,none⟩),.agg (atCells x).toArray] v fun e w' => WEnd gin v (F x) e w') :
  Calls Tryz.prog 151 #[.pointer (some ⟨g,0,none⟩),.int .i64 num,.slice p l.length c,.func (.func K) #[] #[]] w fun e w' => WEnd g w (fs ++ l.map fun x => blkF num (msgB (F x))) e w':=by
 have HH:=hide H
 have HE:=hide hK
 have A1:=hide (fun v (hv:KeptW g w v) => hv.rc hB (by decide) (by decide) h ht)
 have nl:=h.len
 have gl:=hW.lt
 have HW:=hide hW
 clear h H hW hK
 go_enter Tryz.func151,Tryz.ntmps151
 go_wp2_with fail
 obtain ⟨W,hWe⟩:∃ W,(w.alloc (Obj.cells #[.func (.func K) #[] #[]] 200)) = W:=⟨_,rfl⟩
 have BX:Hid (Box W w.heap.size #[.func (.func K) #[] #[]] 200):=hide (by rw [← hWe]; exact Box.new w _ _)
 have BW:Hid (KeptW g w W):=hide (by rw [← hWe]; exact KeptW.below (al1p _ _) (by omega))
 have BL:Hid (WrIn g W fs):=hide (by rw [← hWe]; exact (uh HW).below (al1p _ _))
 rw [hWe]
 clear hWe
 go_loopw [12] (fun iv wr => ∃ n:Nat,iv = .int .i64 n ∧ n ≤ l.length ∧ Hid (WrIn g wr (fs ++ (l.take n).map fun x => blkF num (msgB (F x)))) ∧ Hid (KeptW g W wr)) (fun iv _ => l.length - (intOf iv).toNat)
 case atStart => exact ⟨0,rfl,by omega,hide (by rw [List.take_zero,List.map_nil,List.append_nil]; exact uh BL),hide (KeptW.refl _ _)⟩
 case round =>
  obtain ⟨n,rfl,hn,HN,HB⟩:=hrel
  by_cases hlt:n < l.length
  ·have hi:(n:Int) < (l.length:Int):=by omega
   obtain ⟨b,o,rfl,hb,hc⟩:=(uh A1 _ ((uh BW).trans (uh HB))).lies (by omega)
   have k0:wr.cell? ⟨b,o + n * 12,none⟩ = some (strV (l.getD n noAtA).nm):=hc n hlt 0 _ rfl
   have k1:wr.cell? ⟨b,o + n * 12 + 1,none⟩ = some (.int .i64 (l.getD n noAtA).kd):=hc n hlt 1 _ rfl
   have k2:wr.cell? ⟨b,o + n * 12 + 2,none⟩ = some (.int .u32 (l.getD n noAtA).f):=hc n hlt 2 _ rfl
   have k3:wr.cell? ⟨b,o + n * 12 + 3,none⟩ = some (.int .i64 (l.getD n noAtA).i):=hc n hlt 3 _ rfl
   have k4:wr.cell? ⟨b,o + n * 12 + 4,none⟩ = some (strV (l.getD n noAtA).s):=hc n hlt 4 _ rfl
   have k5:wr.cell? ⟨b,o + n * 12 + 5,none⟩ = some (.int .i64 (l.getD n noAtA).T.1):=hc n hlt 5 _ rfl
   have k6:wr.cell? ⟨b,o + n * 12 + 6,none⟩ = some (.slice (l.getD n noAtA).A.pd (l.getD n noAtA).T.2.1.length (l.getD n noAtA).A.cd):=hc n hlt 6 _ rfl
   have k7:wr.cell? ⟨b,o + n * 12 + 7,none⟩ = some (.slice (l.getD n noAtA).A.pf (l.getD n noAtA).T.2.2.1.length (l.getD n noAtA).A.cf):=hc n hlt 7 _ rfl
   have k8:wr.cell? ⟨b,o + n * 12 + 8,none⟩ = some (.slice (l.getD n noAtA).A.pi (l.getD n noAtA).T.2.2.2.1.length (l.getD n noAtA).A.ci):=hc n hlt 8 _ rfl
   have k9:wr.cell? ⟨b,o + n * 12 + 9,none⟩ = some (.slice (l.getD n noAtA).A.pb (l.getD n noAtA).T.2.2.2.2.length (l.getD n noAtA).A.cb):=hc n hlt 9 _ rfl
   have k10:wr.cell? ⟨b,o + n * 12 + 10,none⟩ = some (.slice (l.getD n noAtA).qf (l.getD n noAtA).fl.length (l.getD n noAtA).cf):=hc n hlt 10 _ rfl
   have k11:wr.cell? ⟨b,o + n * 12 + 11,none⟩ = some (.slice (l.getD n noAtA).qi (l.getD n noAtA).is.length (l.getD n noAtA).ci):=hc n hlt 11 _ rfl
   have HX:=hide (fun v gin (hv:KeptW g W v) hgg hg => uh HH v gin ((uh BW).trans hv) hgg hg (l.getD n noAtA) (getD_mem7 hlt))
   have HT:=hide (map_take7 (fun x => blkF num (msgB (F x))) noAtA l n hlt)
   have HP:=hide (msg_pre7 fs (fun x => blkF num (msgB (F x))) l n)
   have grl:=(uh HN).lt
   generalize F (l.getD n noAtA) = FX at HX HT
   generalize l.getD n noAtA = a at k0 k1 k2 k3 k4 k5 k6 k7 k8 k9 k10 k11 HX
   unfold strV at k0 k4
   clear hc
   have BG:=hide ((uh HB).box (by decide) (by decide) (uh BX))
   have hgb:=(uh BG).lt
   obtain ⟨vw,full,bx,hfull⟩:=(uh HN).open
   have x2:=(bx.alloc (Obj.cells #[.string (strOfNums a.nm),.int .i64 a.kd,.int .u32 a.f,.int .i64 a.i,.string (strOfNums a.s),.int .i64 a.T.1,.slice a.A.pd a.T.2.1.length a.A.cd,.slice a.A.pf a.T.2.2.1.length a.A.cf,.slice a.A.pi a.T.2.2.2.1.length a.A.ci,.slice a.A.pb a.T.2.2.2.2.length a.A.cb,.slice a.qf a.fl.length a.cf,.slice a.qi a.is.length a.ci] 86)).cell
   have HF:=hide hfull
   clear hfull bx
   cases full
   ·have CI:=hide (cinner_any g _ FX num 207 (ent_of Tryz.func207 (by kernel_rfl) rfl) #[.pointer (some ⟨w.heap.size,0,none⟩),.pointer (some ⟨wr.heap.size,0,none⟩)] (wr.alloc (Obj.cells #[.string (strOfNums a.nm),.int .i64 a.kd,.int .u32 a.f,.int .i64 a.i,.string (strOfNums a.s),.int .i64 a.T.1,.slice a.A.pd a.T.2.1.length a.A.cd,.slice a.A.pf a.T.2.2.1.length a.A.cf,.slice a.A.pi a.T.2.2.2.1.length a.A.ci,.slice a.A.pb a.T.2.2.2.2.length a.A.cb,.slice a.qf a.fl.length a.cf,.slice a.qi a.is.length a.ci] 86)) ((uh HN).below (al1p _ _)) (fun v gin hv hg hw => ceach1Attr_any K (uh HE) a gin w.heap.size wr.heap.size FX v (((uh BG).alloc _).below hv) ((Box.new wr _ _).below hv) (uh HX v gin (((uh HB).trans (KeptW.below (al1p _ _) (by omega))).trans (KeptW.below hv (by simp; omega))) (by simp only [alloc_size6] at hg; omega) hw)) h1 h2)
    go_wp2_with fail
    refine (uh CI).mono ?_
    rintro e w1 ⟨rfl,hv1,hv2⟩
    rw [List.append_assoc,← uh HT] at hv1
    have H1:=hide hv1
    have H2:=hide (((uh HB).trans (KeptW.below (al1p _ _) (by omega))).trans hv2)
    clear hv1 hv2 CI HX
    go_wp2_with fail
    go_roundw
    case rel => exact ⟨n + 1,by go_num,by omega,H1,H2⟩
    case measure => simp [intOf]; omega
   ·have HV:=hide ((uh HN).over (uh HF rfl) (Nat.lt_of_lt_of_le (uh HF rfl) (uh HP)))
    go_wp2_with fail
    refine bodyPost_ret (v:=.tuple #[]) (results_none rfl _ _ _) rfl ?_
    exact ⟨rfl,(uh HV).below (al1p _ _),((uh BW).trans (uh HB)).trans (KeptW.below (al1p _ _) (by omega))⟩
  ·have hi:¬ (n:Int) < (l.length:Int):=by omega
   have H1:Hid (WrIn g wr (fs ++ l.map fun x => blkF num (msgB (F x)))):=hide (by have:=uh HN; rw [List.take_of_length_le (by omega)] at this; exact this)
   have H2:=hide ((uh BW).trans (uh HB))
   clear HN
   go_wp2_with fail
   go_end0
   exact ⟨rfl,uh H1,uh H2⟩
theorem ceach1int_any (K:FuncId) (hK:Ent K) (x:Int) (gin gb ge:Nat) (F:List Fld) (w:World) (hb:Box w gb #[.func (.func K) #[] #[]] 205) (he:Box w ge #[.int .i64 x] 3)
  (H:Calls Tryz.prog K #[.pointer (some ⟨gin,0,none⟩),.int .i64 x] w fun e w' => WEnd gin w F e w') :
  Calls Tryz.prog 219 #[.pointer (some ⟨gin,0,none⟩),.pointer (some ⟨gb,0,none⟩),.pointer (some ⟨ge,0,none⟩)] w fun e w' => WEnd gin w F e w':=by
 have hk:∀ (args:Array Value) (v:World),(callFunc K args).run Tryz.prog v = .ok (.enter K args) v:=hK
 have HX:=hide H
 have x0:=hb.cell
 have x1:=he.cell
 clear H hb he hK
 go_enter Tryz.func219,Tryz.ntmps219
 go_wp2_with fail
 refine (uh HX).mono ?_
 rintro e v ⟨rfl,hv1,hv2⟩
 have H1:=hide hv1
 have H2:=hide hv2
 clear hv1 hv2 HX
 go_wp2_with fail
 go_end0
 exact ⟨rfl,uh H1,uh H2⟩
theorem ceachint_any (g B:Nat) (fs:List Fld) (num:Int) (K:FuncId) (hK:Ent K) (F:Int → List Fld) (p:Option Addr) (c:Nat) (l:List Int) (w:World) (hW:WrIn g w fs) (h:Ls (Value.int .i64) w p c l) (ht:Tag 3 B w p l.length) (hB:B ≤ g) (h1:1 ≤ num) (h2:num ≤ 536870911)
  (H:∀ v gin,KeptW g w v → g ≤ gin → WrIn gin v [] → ∀ x ∈ l,Calls Tryz.prog K #[.pointer (some ⟨gin,0,none⟩),.int .i64 x] v fun e w' => WEnd gin v (F x) e w') :
  Calls Tryz.prog 162 #[.pointer (some ⟨g,0,none⟩),.int .i64 num,.slice p l.length c,.func (.func K) #[] #[]] w fun e w' => WEnd g w (fs ++ l.map fun x => blkF num (msgB (F x))) e w':=by
 have HH:=hide H
 have HE:=hide hK
 have A1:=hide (fun v (hv:KeptW g w v) => hv.ls hB (by decide) (by decide) h ht)
 have nl:=h.len
 have gl:=hW.lt
 have HW:=hide hW
 clear h H hW hK
 go_enter Tryz.func162,Tryz.ntmps162
 go_wp2_with fail
 obtain ⟨W,hWe⟩:∃ W,(w.alloc (Obj.cells #[.func (.func K) #[] #[]] 205)) = W:=⟨_,rfl⟩
 have BX:Hid (Box W w.heap.size #[.func (.func K) #[] #[]] 205):=hide (by rw [← hWe]; exact Box.new w _ _)
 have BW:Hid (KeptW g w W):=hide (by rw [← hWe]; exact KeptW.below (al1p _ _) (by omega))
 have BL:Hid (WrIn g W fs):=hide (by rw [← hWe]; exact (uh HW).below (al1p _ _))
 rw [hWe]
 clear hWe
 go_loopw [12] (fun iv wr => ∃ n:Nat,iv = .int .i64 n ∧ n ≤ l.length ∧ Hid (WrIn g wr (fs ++ (l.take n).map fun x => blkF num (msgB (F x)))) ∧ Hid (KeptW g W wr)) (fun iv _ => l.length - (intOf iv).toNat)
 case atStart => exact ⟨0,rfl,by omega,hide (by rw [List.take_zero,List.map_nil,List.append_nil]; exact uh BL),hide (KeptW.refl _ _)⟩
 case round =>
  obtain ⟨n,rfl,hn,HN,HB⟩:=hrel
  by_cases hlt:n < l.length
  ·have hi:(n:Int) < (l.length:Int):=by omega
   obtain ⟨b,o,rfl,hb,hc⟩:=(uh A1 _ ((uh BW).trans (uh HB))).lies (by omega)
   have k0:wr.cell? ⟨b,o + n,none⟩ = some (.int .i64 (l.getD n 0)):=hc n hlt
   have HX:=hide (fun v gin (hv:KeptW g W v) hgg hg => uh HH v gin ((uh BW).trans hv) hgg hg (l.getD n 0) (getD_mem6 hlt))
   have HT:=hide (map_take7 (fun x => blkF num (msgB (F x))) 0 l n hlt)
   have HP:=hide (msg_pre7 fs (fun x => blkF num (msgB (F x))) l n)
   have grl:=(uh HN).lt
   generalize F (l.getD n 0) = FX at HX HT
   generalize l.getD n 0 = a at k0 HX
   clear hc
   have BG:=hide ((uh HB).box (by decide) (by decide) (uh BX))
   have hgb:=(uh BG).lt
   obtain ⟨vw,full,bx,hfull⟩:=(uh HN).open
   have x2:=(bx.alloc (Obj.cells #[.int .i64 a] 3)).cell
   have HF:=hide hfull
   clear hfull bx
   cases full
   ·have CI:=hide (cinner_any g _ FX num 219 (ent_of Tryz.func219 (by kernel_rfl) rfl) #[.pointer (some ⟨w.heap.size,0,none⟩),.pointer (some ⟨wr.heap.size,0,none⟩)] (wr.alloc (Obj.cells #[.int .i64 a] 3)) ((uh HN).below (al1p _ _)) (fun v gin hv hg hw => ceach1int_any K (uh HE) a gin w.heap.size wr.heap.size FX v (((uh BG).alloc _).below hv) ((Box.new wr _ _).below hv) (uh HX v gin (((uh HB).trans (KeptW.below (al1p _ _) (by omega))).trans (KeptW.below hv (by simp; omega))) (by simp only [alloc_size6] at hg; omega) hw)) h1 h2)
    go_wp2_with fail
    refine (uh CI).mono ?_
    rintro e w1 ⟨rfl,hv1,hv2⟩
    rw [List.append_assoc,← uh HT] at hv1
    have H1:=hide hv1
    have H2:=hide (((uh HB).trans (KeptW.below (al1p _ _) (by omega))).trans hv2)
    clear hv1 hv2 CI HX
    go_wp2_with fail
    go_roundw
    case rel => exact ⟨n + 1,by go_num,by omega,H1,H2⟩
    case measure => simp [intOf]; omega
   ·have HV:=hide ((uh HN).over (uh HF rfl) (Nat.lt_of_lt_of_le (uh HF rfl) (uh HP)))
    go_wp2_with fail
    refine bodyPost_ret (v:=.tuple #[]) (results_none rfl _ _ _) rfl ?_
    exact ⟨rfl,(uh HV).below (al1p _ _),((uh BW).trans (uh HB)).trans (KeptW.below (al1p _ _) (by omega))⟩
  ·have hi:¬ (n:Int) < (l.length:Int):=by omega
   have H1:Hid (WrIn g wr (fs ++ l.map fun x => blkF num (msgB (F x)))):=hide (by have:=uh HN; rw [List.take_of_length_le (by omega)] at this; exact this)
   have H2:=hide ((uh BW).trans (uh HB))
   clear HN
   go_wp2_with fail
   go_end0
   exact ⟨rfl,uh H1,uh H2⟩
end Go.Proofs.YtmdlaahdgjegcaaGreat
