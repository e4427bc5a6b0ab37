import Derived.WalkMore
import Derived.Test.YtmdlaahdgjegcaaGreatV03
import Derived.Test.YtmdlaahdgjegcaaGreatV13
set_option maxRecDepth 100000
set_option maxHeartbeats 8000000
namespace Go.Proofs.YtmdlaahdgjegcaaGreat
open Go.RowKit
set_option linter.unusedVariables false
def OwnL (w w':World) (v:Value) (L:List FA):Prop:=OwnF 148 w w' v L ∧ ∀ a ∈ L,FaIn w' a ∧ OwnD w.heap.size w' a
theorem OwnL.nil {w w':World} (h:Below w.heap.size w w'):OwnL w w' (.slice none 0 0) []:=⟨OwnF.nil _ _ _ h,fun a ha => by cases ha⟩
theorem OwnL.below {w w' w'':World} {v:Value} {L:List FA} (h:OwnL w w' v L) (hb:Below w'.heap.size w' w''):OwnL w w'' v L :=
 ⟨h.1.below hb,fun a ha => ⟨(h.2 a ha).1.below hb,(h.2 a ha).2.below hb⟩⟩
theorem cpartsF_any (p:Option Addr) (c:Nat) (b:List Int) (w:World) (h:Ints .u8 w p c b) (hs:b.length ≤ 4194304) :
  Calls Tryz.prog 125 #[.slice p b.length c,.func (.func 126) #[] #[]] w fun e w' => ∃ v L,e = .returned (.tuple #[v,.int .i64 (errO (readL b))]) ∧ Hid (L.map FA.f = (readL b).getD []) ∧ Hid (OwnL w w' v L):=by
 obtain ⟨i1,hi1,y1,z1,b1⟩:=info_parts Tryz.infoCF
 have A1:=hide h
 have hB:=hide (wf_isB h.2.2.1)
 clear h
 go_enter Tryz.func125,Tryz.ntmps125
 go_wp2_with fail
 go_step3
 go_wp2_with fail
 go_step3
 go_wp2_with fail
 go_loopw [6,7] (fun v iv wr => ∃ n:Nat,∃ L:List FA,iv = .int .i64 n ∧ n ≤ b.length ∧ L.length ≤ n ∧ Hid (readL b = (readL (b.drop n)).map (L.map FA.f ++ ·)) ∧ Hid (OwnL w wr v L)) (fun _ iv _ => b.length - (intOf iv).toNat)
 case atStart => exact ⟨0,[],rfl,by omega,by simp,hide (by rw [List.drop_zero]; cases readL b <;> rfl),hide (OwnL.nil (Below.refl _ _))⟩
 case round =>
  obtain ⟨n,L,rfl,hn,hLl,HR,O⟩:=hrel
  by_cases hlt:n < b.length
  ·have hi:((n:Int) == (b.length:Int)) = false:=by rw [beq_eq_false_iff_ne]; omega
   have ON:=hide (cone_any p c b n wr ((uh A1).below (uh O).1.2) hn hs)
   have HS:=hide (read_step hlt (uh HR))
   have HK:Hid (∀ y,oneL (b.drop n) = some y → 1 ≤ y.2 ∧ n + y.2 ≤ b.length):=hide (fun y hy => by
    obtain ⟨_,_,_,g4,g5⟩:=oneL_may (isB_drop (uh hB) n) (f:=y.1) (k:=y.2) hy
    simp at g5
    omega)
   clear HR
   cases hd:oneL (b.drop n) with
   | none =>
     rw [hd] at ON HS
     simp only [errO,Option.isSome_none] at ON HS
     have HE:Hid (readL b = none):=hide (uh HS)
     clear HS HK hd
     go_wp2_with fail
     refine (uh ON).mono ?_
     rintro e w1 ⟨⟨a,nx,rfl,_⟩,hb1⟩
     have BB:=hide (bl_tr (bl_tr (uh O).1.2 hb1) (al1p w1 (Obj.cells #[.int .i64 a.n,.int .i64 a.wr,.int .u64 a.x,.slice a.q a.d.length a.c] 148)))
     clear hb1 ON
     unfold faV
     go_wp2_with fail
     rw [Exit.noGoto_ret]
     go_ret2
     exact ⟨_,[],by rw [uh HE]; rfl,hide (by rw [uh HE]; rfl),hide (OwnL.nil (uh BB))⟩
   | some y =>
     obtain ⟨f,k⟩:=y
     rw [hd] at ON HS
     simp only [errO,Option.isSome_some] at ON HS
     obtain ⟨k1,k2⟩:=uh HK (f,k) hd
     simp only at k1 k2
     clear HK hd
     go_wp2_with fail
     refine (uh ON).mono ?_
     rintro e w1 ⟨⟨a,nx,rfl,hq⟩,hb1⟩
     obtain ⟨ha1,ha2,ha3,ha4⟩:=uh hq (f,k) rfl
     simp only at ha1 ha2
     subst ha1 ha2
     have O1:=hide ((uh O).1.below hb1)
     have HI1:Hid (∀ a' ∈ L ++ [a],FaIn w1 a' ∧ OwnD w.heap.size w1 a'):=hide (fun a' h' => by
      rcases List.mem_append.1 h' with g | g
      ·exact ⟨((uh O).2 a' g).1.below hb1,((uh O).2 a' g).2.below hb1⟩
      ·simp at g; subst g; exact ⟨ha3,ha4.mono (uh O).1.2.size⟩)
     have HS2:Hid (readL b = (readL (b.drop (n + k))).map ((L ++ [a]).map FA.f ++ ·)):=hide (by rw [uh HS,List.map_append]; rfl)
     obtain ⟨m,hm⟩:∃ m,n + k = m:=⟨_,rfl⟩
     rw [hm] at HS2 k2 ⊢
     have hm1:n < m:=by omega
     clear hb1 ON hq ha3 ha4 HS O hm
     unfold faV
     go_wp2_with (at_builtin; (refine wpList_append_fldG rfl _ _ 55 rfl w 148 i1 _ 48 Tryz.underlying55 hi1 y1 z1 b1 rfl _ L rfl ((uh O1).below (al2p _ _ _)) ⟨_,0,none⟩ 1 a rfl (fa_alloc2 _ _ _ _) (by unfold maxLen; omega) (by omega) ?_; intro v2 w2 O2 G2; have HO2:Hid (OwnL w w2 v2 (L ++ [a])):=hide ⟨O2,fun a' h' => ⟨(FaIn.grown ((uh HI1 a' h').1.below (al2p _ _ _)) ((uh HI1 a' h').2.below (al2p _ _ _)).ty ((uh O1).below (al2p _ _ _)) (by decide) G2).1,OwnD.grown ((uh HI1 a' h').2.below (al2p _ _ _)) ((uh O1).below (al2p _ _ _)) (by decide) G2⟩⟩; clear O2 G2))
     go_roundw
     case rel => exact ⟨m,L ++ [a],rfl,by omega,by simp; omega,HS2,HO2⟩
     case measure => simp [intOf]; omega
  ·have en:n = b.length:=by omega
   have hi:((n:Int) == (b.length:Int)) = true:=by rw [en]; simp
   have HE:Hid (readL b = some (L.map FA.f)):=hide (by
    have h1:=uh HR
    rw [List.drop_of_length_le (by omega),readL_nil] at h1
    simp only [Option.map_some,List.append_nil] at h1
    exact h1)
   have HO:=O
   clear HR O en
   go_wp2_with fail
   rw [Exit.noGoto_ret]
   go_ret2
   exact ⟨_,L,by rw [uh HE]; rfl,hide (by rw [uh HE]; rfl),HO⟩
theorem cread_any (p:Option Addr) (c:Nat) (b:List Int) (w:World) (h:Ints .u8 w p c b) :
  Calls Tryz.prog 64 #[.slice p b.length c] w fun e w' => ∃ v L,e = .returned (.tuple #[v,.int .i64 (readV b).2]) ∧ Hid (L.map FA.f = (readV b).1) ∧ Hid (OwnL w w' v L):=by
 have bl:=h.len
 by_cases hbig:4194304 < b.length
 ·have e:readV b = ([],8):=by unfold readV; rw [if_pos hbig]
  have hbi:(4194304:Int) < (b.length:Int):=by omega
  rw [e]
  go_enter Tryz.func64,Tryz.ntmps64
  go_wp2_with fail
  go_ret2
  exact ⟨_,[],rfl,hide rfl,hide (OwnL.nil (Below.refl _ _))⟩
 ·have hbi:¬ (4194304:Int) < (b.length:Int):=by omega
  have PF:=hide (cpartsF_any p c b w h (by omega))
  have HE:Hid (readV b = ((readL b).getD [],errO (readL b))):=hide (by
   unfold readV
   rw [if_neg hbig]
   cases readL b <;> rfl)
  rw [uh HE]
  clear h HE
  generalize errO (readL b) = E at PF ⊢
  generalize (readL b).getD [] = G at PF ⊢
  go_enter Tryz.func64,Tryz.ntmps64
  go_wp2_with fail
  refine (uh PF).mono ?_
  rintro e w1 ⟨v,L,rfl,h1,h2⟩
  go_wp2_with fail
  go_ret2
  exact ⟨_,L,rfl,h1,h2⟩
theorem ccopied_any (a:FA) (w:World) (h:FaIn w a) (hs:a.d.length ≤ 140737488355328) :
  Calls Tryz.prog 220 #[faV a] w fun e w' => ∃ a',e = .returned (faV a') ∧ Hid (a'.f = a.f ∧ FaIn w' a' ∧ OwnD w.heap.size w' a' ∧ Below w.heap.size w w'):=by
 obtain ⟨n,wi,x,d,q,c⟩:=a
 have CL:=hide (fun v (hv:Below w.heap.size w v) => cclone_any q c d v (h.below hv).2.2.2.ls hs)
 have HI:=hide h
 clear h
 simp only at hs
 unfold faV
 simp only
 go_enter Tryz.func220,Tryz.ntmps220
 go_wp2_with fail
 refine (uh CL _ (al2p _ _ _)).mono ?_
 rintro e w5 ⟨v5,rfl,O5⟩
 obtain ⟨q5,d5,hv5,L5,F5⟩:=O5.form
 subst hv5
 have HL5:=hide L5
 have HF5:=hide F5
 have HT5:=hide O5
 have M5:=hide (bl_tr (al2p _ _ _) O5.2)
 have G5:=hide (Box.below (Box.alloc (Box.new w #[.int .i64 n,.int .i64 wi,.int .u64 x,.slice q d.length c] 148) _) O5.2)
 have R5:=hide (Box.below (Box.new (w.alloc _) #[.int .i64 0,.int .i64 0,.int .u64 0,.slice none 0 0] 148) O5.2)
 simp only [alloc_size6] at R5
 have r5:=(uh R5).cell
 have rf:=(uh R5).frozen
 have g5:=(uh G5).cell
 have gf:=(uh G5).frozen
 have z5:w.heap.size + 1 < w5.heap.size:=(uh R5).lt
 clear O5 L5 F5 CL
 go_wp2_with fail
 refine bodyPost_ret (v:=faV ⟨n,wi,x,d,q5,d5⟩) (by simp [results,Tryz.results220,go_sem,faV,((uh R5).other (k:=w.heap.size) (by omega) 3 (.slice q5 d.length d5)).set4 (.int .i64 n) (.int .i64 wi) (.int .u64 x) (.slice q5 d.length d5) |>.cell]) rfl ⟨⟨n,wi,x,d,q5,d5⟩,rfl,hide ⟨rfl,?_,?_,bset4 ((uh M5).setCell (by simp) _) (by omega) _ _ _ _⟩⟩
 ·have hf5:Fresh (w.heap.size + 2) w5 q5 d.length:=(uh HF5).mono (by simp)
  exact ⟨(uh HI).1,(uh HI).2.1,(uh HI).2.2.1,((uh HL5).far5 hf5 (by omega) (by omega) _ _ _ _ _ _).ints (uh HI).2.2.2.2.2.1⟩
 ·have hd5:OwnD (w.heap.size + 2) w5 ⟨n,wi,x,d,q5,d5⟩:=OwnD.mono (own_d (uh HT5)) (by simp)
  exact (OwnD.set5 (C:=0) hd5 (by omega) (by omega) _ _ _ _ _ _).mono (by omega)
theorem call_any (p:Option Addr) (c:Nat) (l:List FA) (num:Int) (w:World) (h:Fls w p c l) (hs:l.length * 48 ≤ 140737488355328) (hd:∀ a ∈ l,a.d.length ≤ 140737488355328) :
  Calls Tryz.prog 169 #[.slice p l.length c,.int .i64 num] w fun e w' => ∃ v L,e = .returned v ∧ Hid (L.map FA.f = (allA l num).map FA.f) ∧ Hid (OwnL w w' v L):=by
 obtain ⟨i1,hi1,y1,z1,b1⟩:=info_parts Tryz.infoCF
 have A1:=hide h.1
 have AI:=hide h.2
 have AD:=hide hd
 have nl:=h.1.len
 clear h hd
 go_enter Tryz.func169,Tryz.ntmps169
 go_wp2_with fail
 go_loopw [5,10] (fun v iv wr => ∃ n:Nat,∃ L:List FA,iv = .int .i64 n ∧ n ≤ l.length ∧ L.length ≤ n ∧ Hid (L.map FA.f = (allA (l.take n) num).map FA.f) ∧ Hid (OwnL w wr v L)) (fun _ iv _ => l.length - (intOf iv).toNat)
 case atStart => exact ⟨0,[],rfl,by omega,by simp,hide rfl,hide (OwnL.nil (Below.refl _ _))⟩
 case round =>
  obtain ⟨n,L,rfl,hn,hLl,HL,O⟩:=hrel
  by_cases hlt:n < l.length
  ·have hi:(n:Int) < (l.length:Int):=by omega
   obtain ⟨b,o,rfl,hb,k0,k1,k2,k3⟩:=((uh A1).below (uh O).1.2).at hlt
   have HT:=hide (allA_take l num n hlt)
   have CC:=hide (fun v hv => ccopied_any (l.getD n noFA) v ((uh AI _ (getD_memF hlt)).below (bl_tr (uh O).1.2 hv)) (uh AD _ (getD_memF hlt)))
   generalize l.getD n noFA = a at k0 k1 k2 k3 HT CC
   unfold faV at CC
   by_cases hnm:a.n = num
   ·have tn:(a.n == num) = true:=by simp [hnm]
    have HT2:Hid ((allA (l.take (n + 1)) num).map FA.f = L.map FA.f ++ [a.f]):=hide (by rw [uh HT,if_pos tn,List.map_append,uh HL]; rfl)
    clear HT hnm
    go_wp2_with fail
    refine (uh CC _ (al1p _ _)).mono ?_
    rintro e w1 ⟨a',rfl,hq⟩
    obtain ⟨g1,g2,g3,g4⟩:=uh hq
    have O1:=hide ((uh O).1.below (bl_tr (al1p _ _) g4))
    have HT3:Hid ((allA (l.take (n + 1)) num).map FA.f = (L ++ [a']).map FA.f):=hide (by rw [uh HT2,List.map_append,← g1]; rfl)
    have HI1:Hid (∀ x ∈ L ++ [a'],FaIn w1 x ∧ OwnD w.heap.size w1 x):=hide (fun x h' => by
     rcases List.mem_append.1 h' with g | g
     ·exact ⟨((uh O).2 x g).1.below (bl_tr (al1p _ _) g4),((uh O).2 x g).2.below (bl_tr (al1p _ _) g4)⟩
     ·simp at g; subst g
      exact ⟨g2,g3.mono (Nat.le_trans (uh O).1.2.size (al1p _ _).size)⟩)
    clear hq g1 g2 g3 g4 CC HT2 O
    go_wp2_with (at_builtin; (refine wpList_append_fldG rfl _ _ 55 rfl w 148 i1 _ 48 Tryz.underlying55 hi1 y1 z1 b1 rfl _ L rfl ((uh O1).below (al1p _ _)) ⟨_,0,none⟩ 1 a' rfl (fa_alloc _ _ _) (by unfold maxLen; omega) (by omega) ?_; intro v2 w2 O2 G2; have HO2:Hid (OwnL w w2 v2 (L ++ [a'])):=hide ⟨O2,fun x h' => ⟨(FaIn.grown ((uh HI1 x h').1.below (al1p _ _)) ((uh HI1 x h').2.below (al1p _ _)).ty ((uh O1).below (al1p _ _)) (by decide) G2).1,OwnD.grown ((uh HI1 x h').2.below (al1p _ _)) ((uh O1).below (al1p _ _)) (by decide) G2⟩⟩; clear O2 G2))
    go_roundw
    case rel => exact ⟨n + 1,L ++ [a'],by go_num,by omega,by simp; omega,hide (uh HT3).symm,HO2⟩
    case measure => simp [intOf]; omega
   ·have tn:(a.n == num) = false:=by simp [hnm]
    have HT2:Hid (allA (l.take (n + 1)) num = allA (l.take n) num):=hide (by rw [uh HT,if_neg (by rw [tn]; decide),List.append_nil])
    have HO2:=hide ((uh O).below (al1p wr (Obj.cells #[.int .i64 a.n,.int .i64 a.wr,.int .u64 a.x,.slice a.q a.d.length a.c] 148)))
    clear HT hnm CC O
    go_wp2_with fail
    go_roundw
    case rel => exact ⟨n + 1,L,by go_num,by omega,by omega,hide (by rw [uh HT2]; exact uh HL),HO2⟩
    case measure => simp [intOf]; omega
  ·have hi:¬ (n:Int) < (l.length:Int):=by omega
   have HE:Hid (allA (l.take n) num = allA l num):=hide (by rw [List.take_of_length_le (by omega)])
   go_wp2_with fail
   go_ret
   exact ⟨_,rfl,L,hide (by rw [← uh HE]; exact uh HL),O⟩
theorem cindex6_any (p:Option Addr) (c:Nat) (ws:List Int) (x:Int) (w:World) (h:Ls (Value.int .i64) w p c ws) :
  Calls Tryz.prog 248 #[.slice p ws.length c,.int .i64 x] w fun e w' => (∃ r:Int,e = .returned (.int .i64 r) ∧ decide (0 ≤ r) = decide (x ∈ ws)) ∧ w' = w:=by
 have A1:=hide h
 have nl:=h.len
 clear h
 go_enter Tryz.func248,Tryz.ntmps248
 go_wp2_with fail
 go_loop [8] (fun iv => ∃ n:Nat,iv = .int .i64 n ∧ n ≤ ws.length ∧ Hid (¬ x ∈ ws.take n)) (fun iv => ws.length - (intOf iv).toNat)
 case atStart => exact ⟨0,rfl,by omega,hide (by simp)⟩
 case round =>
  obtain ⟨n,rfl,hn,HN⟩:=hrel
  by_cases hlt:n < ws.length
  ·have hi:(n:Int) < (ws.length:Int):=by omega
   obtain ⟨b,o,rfl,hb,hc⟩:=(uh A1).lies (by omega)
   have k1:w.cell? ⟨b,o + n,none⟩ = some (.int .i64 (ws.getD n 0)):=hc n hlt
   have HT:Hid (ws.take (n + 1) = ws.take n ++ [ws.getD n 0]):=hide (by rw [List.take_add_one,List.getD_eq_getElem?_getD,List.getElem?_eq_getElem hlt]; rfl)
   have HM:=hide (getD_mem6 hlt)
   generalize ws.getD n 0 = y at k1 HT HM
   clear hc
   by_cases hxy:x = y
   ·subst hxy
    go_wp2_with fail
    go_ret
    exact ⟨⟨n,rfl,⟨fun _ => uh HM,fun _ => by omega⟩⟩,rfl⟩
   ·have txy:(x == y) = false:=by simp [hxy]
    have HN2:Hid (¬ x ∈ ws.take (n + 1)):=hide (by rw [uh HT]; simp [uh HN,hxy])
    clear HT HM HN hxy
    go_wp2_with fail
    go_round
    case rel => exact ⟨n + 1,by go_num,by omega,HN2⟩
    case measure => simp [intOf]; omega
  ·have hi:¬ (n:Int) < (ws.length:Int):=by omega
   have HE:Hid (¬ x ∈ ws):=hide (by have:=uh HN; rw [List.take_of_length_le (by omega)] at this; exact this)
   clear HN
   go_wp2_with fail
   go_ret
   exact ⟨⟨-1,rfl,⟨fun h => by omega,fun h => absurd h (uh HE)⟩⟩,rfl⟩
theorem ccontains_any (p:Option Addr) (c:Nat) (ws:List Int) (x:Int) (w:World) (h:Ls (Value.int .i64) w p c ws) :
  Calls Tryz.prog 221 #[.slice p ws.length c,.int .i64 x] w fun e w' => e = .returned (.bool (decide (x ∈ ws))) ∧ w' = w:=by
 have IX:=hide (cindex6_any p c ws x w h)
 generalize decide (x ∈ ws) = D at IX ⊢
 clear h
 go_enter Tryz.func221,Tryz.ntmps221
 go_wp2_with fail
 refine (uh IX).mono ?_
 rintro e v ⟨⟨r,rfl,hr⟩,rfl⟩
 have HR:=hide hr
 clear hr
 go_wp2_with fail
 go_ret
 exact ⟨ret_bool (uh HR),rfl⟩
def okW (ws:List Int) (l:List FA):Bool:=l.all fun a => decide (a.wr ∈ ws)
theorem csaid_any (p q:Option Addr) (c d:Nat) (l:List FA) (num:Int) (ws:List Int) (w:World) (h:Fls w p c l) (hq:Ls (Value.int .i64) w q d ws) (hs:l.length * 48 ≤ 140737488355328) :
  Calls Tryz.prog 171 #[.slice p l.length c,.int .i64 num,.slice q ws.length d] w fun e w' => ∃ v,e = .returned (.tuple #[v,.int .i64 (if okW ws (allA l num) then 0 else 6)]) ∧ OwnF 148 w w' v (if okW ws (allA l num) then allA l num else []):=by
 obtain ⟨i1,hi1,y1,z1,b1⟩:=info_parts Tryz.infoCF
 have A1:=hide h.1
 have AQ:=hide hq
 have nl:=h.1.len
 have nq:=hq.len
 clear h hq
 obtain ⟨D,hD⟩:∃ D,okW ws (allA l num) = D:=⟨_,rfl⟩
 have HD:=hide hD
 rw [hD]
 clear hD
 obtain ⟨E,hE⟩:∃ E:Int,(if D = true then (0:Int) else 6) = E:=⟨_,rfl⟩
 obtain ⟨RL,hRL⟩:∃ RL,(if D = true then allA l num else []) = RL:=⟨_,rfl⟩
 have HEE:=hide hE
 have HRL:=hide hRL
 rw [hE,hRL]
 clear hE hRL
 go_enter Tryz.func171,Tryz.ntmps171
 go_wp2_with fail
 go_loopw [8,13] (fun v iv wr => ∃ n:Nat,iv = .int .i64 n ∧ n ≤ l.length ∧ Hid (okW ws (allA (l.take n) num) = true) ∧ Hid (OwnF 148 w wr v (allA (l.take n) num))) (fun _ iv _ => l.length - (intOf iv).toNat)
 case atStart => exact ⟨0,rfl,by omega,hide rfl,hide (OwnF.nil _ _ _ (Below.refl _ _))⟩
 case round =>
  obtain ⟨n,rfl,hn,HK,O⟩:=hrel
  by_cases hlt:n < l.length
  ·have hi:(n:Int) < (l.length:Int):=by omega
   obtain ⟨b,o,rfl,hb,k0,k1,k2,k3⟩:=((uh A1).below (uh O).2).at hlt
   have HT:=hide (allA_take l num n hlt)
   have HM:Hid ((l.getD n noFA).n == num → l.getD n noFA ∈ allA l num):=hide (fun hh => List.mem_filter.2 ⟨getD_memF hlt,hh⟩)
   have hal:=allA_len l num n
   have CC:=hide (fun v hv => ccontains_any q d ws (l.getD n noFA).wr v ((uh AQ).below (bl_tr (uh O).2 hv)))
   generalize l.getD n noFA = a at k0 k1 k2 k3 HT HM CC
   by_cases hnm:a.n = num
   ·have tn:(a.n != num) = false:=bneFp hnm
    have te:(a.n == num) = true:=by simp [hnm]
    have HT2:Hid (allA (l.take (n + 1)) num = allA (l.take n) num ++ [a]):=hide (by rw [uh HT,if_pos te])
    have HM2:=hide (uh HM te)
    clear HT hnm HM te
    by_cases hw:a.wr ∈ ws
    ·rw [decide_eq_true hw] at CC
     have HK2:Hid (okW ws (allA (l.take (n + 1)) num) = true):=hide (by
      have:=uh HK
      unfold okW at this ⊢
      rw [uh HT2,List.all_append,this]
      simp [hw])
     clear hw HK HM2
     go_wp2_with fail
     refine (uh CC _ (al1p _ _)).mono ?_
     rintro e v ⟨rfl,hv⟩
     replace hv:=hv.symm
     subst hv
     go_wp2_with (at_builtin; (refine wpList_append_fld rfl _ _ 55 rfl w 148 i1 _ 48 Tryz.underlying55 hi1 y1 z1 b1 rfl _ (allA (l.take n) num) rfl ((uh O).below (al2p _ _ _)) ⟨_,0,none⟩ 1 a rfl (fa_alloc2 _ _ _ _) (by unfold maxLen; omega) (by omega) ?_; intro v2 w2 O2; have HO2:=hide O2; clear O2))
     go_roundw
     case rel => exact ⟨n + 1,by go_num,by omega,HK2,hide (by rw [uh HT2]; exact uh HO2)⟩
     case measure => simp [intOf]; omega
    ·rw [decide_eq_false hw] at CC
     have HE:Hid (D = false):=hide (by
      rw [← uh HD]
      unfold okW
      rw [List.all_eq_false]
      exact ⟨a,uh HM2,by simp [hw]⟩)
     have BB:=hide (bl_tr (uh O).2 (al1p wr (Obj.cells #[.int .i64 a.n,.int .i64 a.wr,.int .u64 a.x,.slice a.q a.d.length a.c] 148)))
     clear hw HK HM2
     go_wp2_with fail
     refine (uh CC _ (al1p _ _)).mono ?_
     rintro e v ⟨rfl,hv⟩
     replace hv:=hv.symm
     subst hv
     go_wp2_with fail
     go_ret2
     exact ⟨_,by rw [← uh HEE,uh HE]; rfl,by rw [← uh HRL,uh HE]; exact OwnF.nil _ _ _ (uh BB)⟩
   ·have tn:(a.n != num) = true:=bneTp hnm
    have te:(a.n == num) = false:=by simp [hnm]
    have HT2:Hid (allA (l.take (n + 1)) num = allA (l.take n) num):=hide (by rw [uh HT,if_neg (by rw [te]; decide),List.append_nil])
    have HO2:=hide ((uh O).below (al1p wr (Obj.cells #[.int .i64 a.n,.int .i64 a.wr,.int .u64 a.x,.slice a.q a.d.length a.c] 148)))
    clear HT hnm CC O HM te
    go_wp2_with fail
    go_roundw
    case rel => exact ⟨n + 1,by go_num,by omega,hide (by rw [uh HT2]; exact uh HK),hide (by rw [uh HT2]; exact uh HO2)⟩
    case measure => simp [intOf]; omega
  ·have hi:¬ (n:Int) < (l.length:Int):=by omega
   have HE:Hid (allA (l.take n) num = allA l num):=hide (by rw [List.take_of_length_le (by omega)])
   have HE2:Hid (D = true):=hide (by rw [← uh HD,← uh HE]; exact uh HK)
   go_wp2_with fail
   go_ret2
   exact ⟨_,by rw [← uh HEE,uh HE2]; rfl,by rw [← uh HRL,uh HE2,if_pos rfl,← uh HE]; exact uh O⟩
end Go.Proofs.YtmdlaahdgjegcaaGreat
