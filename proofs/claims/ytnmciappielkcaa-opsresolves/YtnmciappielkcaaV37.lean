import Derived.Test.YtnmciappielkcaaV34
import Derived.Test.YtnmciappielkcaaV36
set_option maxRecDepth 100000
set_option maxHeartbeats 8000000
namespace Go.Proofs.Ytnmciappielkcaa
open Go.RowKit
set_option linter.unusedVariables false
set_option linter.unusedSimpArgs false
def sortsR:List Str:=[[102,108,111,97,116],[102,108,97,103],[122,101,114,111],[111,110,101],[97,120,105,115],[105,110,116],[115,105,122,101],[116,121,112,101],[116,101,120,116],[116,101,120,116],[116,101,120,116],[116,101,120,116],[116,101,110,115,111,114],[115,105,110,103,108,101],[102,108,111,97,116,115],[105,110,116,115],[112,108,97,99,101,115],[97,120,101,115],[115,105,122,101,115],[112,97,100,115]]
def sortS (so:Int):Str:=sortsR.getD so.toNat []
theorem rows_sorts:(List.range 80).all (fun k:Nat => decide (rowsR ((k:Int) + 1) = (rowT ((k:Int) + 1)).2.2.2.2.2.map fun t => (t.1,sortS t.2.1,decide (t.2.2.2 = 1)))) = true:=by kernel_rfl
def modeR (op:Int) (nm s:Str):Int :=
 if nm = [97,117,116,111,95,112,97,100] ∧ s = [78,79,84,83,69,84] then 0 else
 if nm = [97,117,116,111,95,112,97,100] ∧ s = [86,65,76,73,68] then 8 else
 if nm = [97,117,116,111,95,112,97,100] ∧ s = [83,65,77,69,95,85,80,80,69,82] then 9 else
 if nm = [97,117,116,111,95,112,97,100] ∧ s = [83,65,77,69,95,76,79,87,69,82] then 10 else
 if nm = [114,101,100,117,99,116,105,111,110] ∧ s = [110,111,110,101] then 0 else
 if nm = [114,101,100,117,99,116,105,111,110] ∧ s = [97,100,100] then 4 else
 if nm = [114,101,100,117,99,116,105,111,110] ∧ s = [109,117,108] then 5 else
 if op = 53 ∧ nm = [109,111,100,101] ∧ s = [99,111,110,115,116,97,110,116] then 1 else
 if op = 53 ∧ nm = [109,111,100,101] ∧ s = [114,101,102,108,101,99,116] then 2 else
 if op = 53 ∧ nm = [109,111,100,101] ∧ s = [101,100,103,101] then 3 else
 if op = 63 ∧ nm = [109,111,100,101] ∧ s = [68,67,82] then 6 else
 if op = 63 ∧ nm = [109,111,100,101] ∧ s = [67,82,68] then 7 else
 -1
def withinR (l:List Int) (most lo hi:Int):Bool:=decide ((l.length:Int) ≤ most) && !(l.any (beyB lo hi))
def mayR (op:Int) (nm:Str) (so:Int) (a:AttrD):Bool :=
 if so = 1 then decide (a.2.2.2.1 = 0) || decide (a.2.2.2.1 = 1) else
 if so = 2 then decide (a.2.2.2.1 = 0) else
 if so = 3 then decide (a.2.2.2.1 = 1) else
 if so = 4 then decide (-8 ≤ a.2.2.2.1) && decide (a.2.2.2.1 ≤ 8) else
 if so = 6 then decide (1 ≤ a.2.2.2.1) && decide (a.2.2.2.1 ≤ 4096) else
 if so = 7 then knownB a.2.2.2.1 else
 if so = 8 ∨ so = 9 ∨ so = 10 ∨ so = 11 then decide (0 ≤ modeR op nm a.2.2.2.2.1) else
 if so = 13 then decide (a.2.2.2.2.2.1.2.2.1.length + a.2.2.2.2.2.1.2.2.2.1.length + a.2.2.2.2.2.1.2.2.2.2.length = 1) else
 if so = 14 then decide (a.2.2.2.2.2.2.1.length ≤ 4096) else
 if so = 15 then decide (a.2.2.2.2.2.2.2.length ≤ 4096) else
 if so = 16 then withinR a.2.2.2.2.2.2.2 8 0 7 else
 if so = 17 then withinR a.2.2.2.2.2.2.2 8 (-8) 8 else
 if so = 18 then withinR a.2.2.2.2.2.2.2 8 1 4096 else
 if so = 19 then withinR a.2.2.2.2.2.2.2 16 0 4096 else true
def flagL (a:AttrD):List (Nat × FV):=match flagK a.1 with
 | some k => [(k,FV.b (a.2.2.2.1 == 1))]
 | none => []
def listL (a:AttrD):List (Nat × FV) :=
 if a.1 = [97,120,101,115] then [(1,FV.l a.2.2.2.2.2.2.2),(2,FV.b true)] else
 if a.1 = [112,101,114,109] then [(7,FV.l a.2.2.2.2.2.2.2),(8,FV.b true)] else
 if a.1 = [107,101,114,110,101,108,95,115,104,97,112,101] then [(20,FV.l a.2.2.2.2.2.2.2)] else
 if a.1 = [115,116,114,105,100,101,115] then [(21,FV.l a.2.2.2.2.2.2.2)] else
 if a.1 = [112,97,100,115] then [(22,FV.l a.2.2.2.2.2.2.2)] else
 if a.1 = [100,105,108,97,116,105,111,110,115] then [(23,FV.l a.2.2.2.2.2.2.2)] else
 if a.1 = [118,97,108,117,101] then [(31,FV.t a.2.2.2.2.2.1)] else
 if a.1 = [118,97,108,117,101,95,102,108,111,97,116] then [(31,FV.t (1,[],[a.2.2.1],[],[]))] else
 if a.1 = [118,97,108,117,101,95,105,110,116] then [(31,FV.t (7,[],[],[a.2.2.2.1],[]))] else
 if a.1 = [118,97,108,117,101,95,102,108,111,97,116,115] then [(31,FV.t (1,[(a.2.2.2.2.2.2.1.length:Int)],a.2.2.2.2.2.2.1,[],[]))] else
 if a.1 = [118,97,108,117,101,95,105,110,116,115] then [(31,FV.t (7,[(a.2.2.2.2.2.2.2.length:Int)],[],a.2.2.2.2.2.2.2,[]))] else
 []
def setL (op:Int) (a:AttrD):List (Nat × FV) :=
 if a.1 = [97,120,105,115] then [(0,FV.i a.2.2.2.1)] else
 if a.1 = [97,108,112,104,97] then [(9,FV.u a.2.2.1)] else
 if a.1 = [98,101,116,97] then [(10,FV.u a.2.2.1)] else
 if a.1 = [101,112,115,105,108,111,110] then [(11,FV.u a.2.2.1)] else
 if a.1 = [116,111] then [(15,FV.i a.2.2.2.1)] else
 if a.1 = [103,114,111,117,112] then [(19,FV.i a.2.2.2.1)] else
 if a.1 = [98,108,111,99,107,115,105,122,101] then [(27,FV.i a.2.2.2.1)] else
 if a.1 = [115,116,97,114,116] then [(28,FV.i a.2.2.2.1)] else
 if a.1 = [101,110,100] then [(29,FV.i a.2.2.2.1),(30,FV.b true)] else
 if a.1 = [109,111,100,101] then [(16,FV.i (modeR op a.1 a.2.2.2.2.1))] else
 if a.1 = [114,101,100,117,99,116,105,111,110] then [(16,FV.i (modeR op a.1 a.2.2.2.2.1))] else
 if a.1 = [97,117,116,111,95,112,97,100] then [(24,FV.i (modeR op a.1 a.2.2.2.2.1))] else
 flagL a ++ listL a
def pairsT:List (Str × Int):=[([97,108,112,104,97],0),([98,101,116,97],0),([101,112,115,105,108,111,110],0),([118,97,108,117,101,95,102,108,111,97,116],0),([109,111,109,101,110,116,117,109],0),([100,101,116,101,99,116,95,110,101,103,97,116,105,118,101],1),([100,101,116,101,99,116,95,112,111,115,105,116,105,118,101],1),([102,109,111,100],1),([97,108,108,111,119,122,101,114,111],1),([107,101,101,112,100,105,109,115],1),([110,111,111,112,95,119,105,116,104,95,101,109,112,116,121,95,97,120,101,115],1),([115,101,108,101,99,116,95,108,97,115,116,95,105,110,100,101,120],1),([116,114,97,110,115,65],1),([116,114,97,110,115,66],1),([99,101,105,108,95,109,111,100,101],1),([99,111,117,110,116,95,105,110,99,108,117,100,101,95,112,97,100],1),([116,114,97,105,110,105,110,103,95,109,111,100,101],2),([115,116,97,115,104,95,116,121,112,101],3),([97,120,105,115],4),([101,110,100],5),([115,116,97,114,116],5),([118,97,108,117,101,95,105,110,116],5),([98,108,111,99,107,115,105,122,101],6),([103,114,111,117,112],6),([116,111],7),([114,101,100,117,99,116,105,111,110],8),([109,111,100,101],9),([109,111,100,101],10),([97,117,116,111,95,112,97,100],11),([118,97,108,117,101],12),([118,97,108,117,101],13),([118,97,108,117,101,95,102,108,111,97,116,115],14),([118,97,108,117,101,95,105,110,116,115],15),([112,101,114,109],16),([97,120,101,115],17),([100,105,108,97,116,105,111,110,115],18),([107,101,114,110,101,108,95,115,104,97,112,101],18),([115,116,114,105,100,101,115],18),([112,97,100,115],19)]
theorem rows_pairs:(List.range 80).all (fun k:Nat => (rowT ((k:Int) + 1)).2.2.2.2.2.all fun t => pairsT.contains (t.1,t.2.1) && ((!decide (t.2.1 = 9) || decide (k = 52)) && (!decide (t.2.1 = 10) || decide (k = 62)))) = true:=by kernel_rfl
def AtW (a:AttrD):Prop:=0 ≤ a.2.2.1 ∧ a.2.2.1 < 4294967296 ∧ -9223372036854775808 ≤ a.2.2.2.1 ∧ a.2.2.2.1 ≤ 9223372036854775807 ∧ ∀ x ∈ a.2.2.2.2.2.2.2,-9223372036854775808 ≤ x ∧ x ≤ 9223372036854775807
def saysR (op so:Int) (a:AttrD):Option (List (Nat × FV)):=if a.2.1 = (bndT.getD so.toNat (0,0,0,0)).1 ∧ mayR op a.1 so a = true then some (setL op a) else none
theorem not_bey {lo hi x:Int}:(!(beyB lo hi x)) = (decide (lo ≤ x) && decide (x ≤ hi)):=by
 unfold beyB
 by_cases h1:x < lo <;> by_cases h2:hi < x <;> simp [h1,h2] <;> omega
theorem says_alpha_0 (op:Int) (kd f i:Int) (s:Str) (T:Ten) (fl is:List Int) (hw:AtW ([97,108,112,104,97],kd,f,i,s,T,fl,is)):takeV 0 [97,108,112,104,97] kd f i s T fl is = saysR op 0 ([97,108,112,104,97],kd,f,i,s,T,fl,is):=by
 obtain ⟨w1,w2,w3,w4,w5⟩:=hw
 simp only at w1 w2 w3 w4 w5
 by_cases hk:kd = 1
 ·subst hk
  have e:f % 4294967296 = f:=Int.emod_eq_of_lt w1 w2
  show some (wrL [97,108,112,104,97] f) = some (setL op ([97,108,112,104,97],1,f,i,s,T,fl,is))
  show some [(9,FV.u (f % 4294967296))] = some [(9,FV.u f)]
  rw [e]
 ·unfold takeV saysR
  rw [if_neg (fun h => hk (hold_kd h)),if_neg (fun h => hk h.1)]
theorem says_beta_0 (op:Int) (kd f i:Int) (s:Str) (T:Ten) (fl is:List Int) (hw:AtW ([98,101,116,97],kd,f,i,s,T,fl,is)):takeV 0 [98,101,116,97] kd f i s T fl is = saysR op 0 ([98,101,116,97],kd,f,i,s,T,fl,is):=by
 obtain ⟨w1,w2,w3,w4,w5⟩:=hw
 simp only at w1 w2 w3 w4 w5
 by_cases hk:kd = 1
 ·subst hk
  have e:f % 4294967296 = f:=Int.emod_eq_of_lt w1 w2
  show some (wrL [98,101,116,97] f) = some (setL op ([98,101,116,97],1,f,i,s,T,fl,is))
  show some [(10,FV.u (f % 4294967296))] = some [(10,FV.u f)]
  rw [e]
 ·unfold takeV saysR
  rw [if_neg (fun h => hk (hold_kd h)),if_neg (fun h => hk h.1)]
theorem says_epsilon_0 (op:Int) (kd f i:Int) (s:Str) (T:Ten) (fl is:List Int) (hw:AtW ([101,112,115,105,108,111,110],kd,f,i,s,T,fl,is)):takeV 0 [101,112,115,105,108,111,110] kd f i s T fl is = saysR op 0 ([101,112,115,105,108,111,110],kd,f,i,s,T,fl,is):=by
 obtain ⟨w1,w2,w3,w4,w5⟩:=hw
 simp only at w1 w2 w3 w4 w5
 by_cases hk:kd = 1
 ·subst hk
  have e:f % 4294967296 = f:=Int.emod_eq_of_lt w1 w2
  show some (wrL [101,112,115,105,108,111,110] f) = some (setL op ([101,112,115,105,108,111,110],1,f,i,s,T,fl,is))
  show some [(11,FV.u (f % 4294967296))] = some [(11,FV.u f)]
  rw [e]
 ·unfold takeV saysR
  rw [if_neg (fun h => hk (hold_kd h)),if_neg (fun h => hk h.1)]
theorem says_value_float_0 (op:Int) (kd f i:Int) (s:Str) (T:Ten) (fl is:List Int) (hw:AtW ([118,97,108,117,101,95,102,108,111,97,116],kd,f,i,s,T,fl,is)):takeV 0 [118,97,108,117,101,95,102,108,111,97,116] kd f i s T fl is = saysR op 0 ([118,97,108,117,101,95,102,108,111,97,116],kd,f,i,s,T,fl,is):=by
 obtain ⟨w1,w2,w3,w4,w5⟩:=hw
 simp only at w1 w2 w3 w4 w5
 by_cases hk:kd = 1
 ·subst hk
  have e:f % 4294967296 = f:=Int.emod_eq_of_lt w1 w2
  show some (wrL [118,97,108,117,101,95,102,108,111,97,116] f) = some (setL op ([118,97,108,117,101,95,102,108,111,97,116],1,f,i,s,T,fl,is))
  show some [(31,FV.t (1,[],[f % 4294967296],[],[]))] = some [(31,FV.t (1,[],[f],[],[]))]
  rw [e]
 ·unfold takeV saysR
  rw [if_neg (fun h => hk (hold_kd h)),if_neg (fun h => hk h.1)]
theorem says_momentum_0 (op:Int) (kd f i:Int) (s:Str) (T:Ten) (fl is:List Int) (hw:AtW ([109,111,109,101,110,116,117,109],kd,f,i,s,T,fl,is)):takeV 0 [109,111,109,101,110,116,117,109] kd f i s T fl is = saysR op 0 ([109,111,109,101,110,116,117,109],kd,f,i,s,T,fl,is):=by
 obtain ⟨w1,w2,w3,w4,w5⟩:=hw
 simp only at w1 w2 w3 w4 w5
 by_cases hk:kd = 1
 ·subst hk
  have e:f % 4294967296 = f:=Int.emod_eq_of_lt w1 w2
  show some (wrL [109,111,109,101,110,116,117,109] f) = some (setL op ([109,111,109,101,110,116,117,109],1,f,i,s,T,fl,is))
  rfl
 ·unfold takeV saysR
  rw [if_neg (fun h => hk (hold_kd h)),if_neg (fun h => hk h.1)]
theorem says_detect_negative_1 (op:Int) (kd f i:Int) (s:Str) (T:Ten) (fl is:List Int) (hw:AtW ([100,101,116,101,99,116,95,110,101,103,97,116,105,118,101],kd,f,i,s,T,fl,is)):takeV 1 [100,101,116,101,99,116,95,110,101,103,97,116,105,118,101] kd f i s T fl is = saysR op 1 ([100,101,116,101,99,116,95,110,101,103,97,116,105,118,101],kd,f,i,s,T,fl,is):=by
 obtain ⟨w1,w2,w3,w4,w5⟩:=hw
 simp only at w1 w2 w3 w4 w5
 by_cases hk:kd = 2
 ·subst hk
  have hh:holdB (bndT.getD (1:Int).toNat (0,0,0,0)) 2 i fl.length is = (decide (i = 0) || decide (i = 1)):=by
   show holdB (2,0,1,0) 2 i fl.length is = _
   simp only [holdB,if_true,not_bey]
   all_goals (rw [Bool.eq_iff_iff]; simp only [Bool.and_eq_true,Bool.or_eq_true,decide_eq_true_eq]; omega)
  unfold takeV saysR
  rw [hh]
  show (if (decide (i = 0) || decide (i = 1)) = true then some (wrL [100,101,116,101,99,116,95,110,101,103,97,116,105,118,101] i) else none) = if (2:Int) = 2 ∧ (decide (i = 0) || decide (i = 1)) = true then some (setL op ([100,101,116,101,99,116,95,110,101,103,97,116,105,118,101],2,f,i,s,T,fl,is)) else none
  simp only [true_and]
  rfl
 ·unfold takeV saysR
  rw [if_neg (fun h => hk (hold_kd h)),if_neg (fun h => hk h.1)]
theorem says_detect_positive_1 (op:Int) (kd f i:Int) (s:Str) (T:Ten) (fl is:List Int) (hw:AtW ([100,101,116,101,99,116,95,112,111,115,105,116,105,118,101],kd,f,i,s,T,fl,is)):takeV 1 [100,101,116,101,99,116,95,112,111,115,105,116,105,118,101] kd f i s T fl is = saysR op 1 ([100,101,116,101,99,116,95,112,111,115,105,116,105,118,101],kd,f,i,s,T,fl,is):=by
 obtain ⟨w1,w2,w3,w4,w5⟩:=hw
 simp only at w1 w2 w3 w4 w5
 by_cases hk:kd = 2
 ·subst hk
  have hh:holdB (bndT.getD (1:Int).toNat (0,0,0,0)) 2 i fl.length is = (decide (i = 0) || decide (i = 1)):=by
   show holdB (2,0,1,0) 2 i fl.length is = _
   simp only [holdB,if_true,not_bey]
   all_goals (rw [Bool.eq_iff_iff]; simp only [Bool.and_eq_true,Bool.or_eq_true,decide_eq_true_eq]; omega)
  unfold takeV saysR
  rw [hh]
  show (if (decide (i = 0) || decide (i = 1)) = true then some (wrL [100,101,116,101,99,116,95,112,111,115,105,116,105,118,101] i) else none) = if (2:Int) = 2 ∧ (decide (i = 0) || decide (i = 1)) = true then some (setL op ([100,101,116,101,99,116,95,112,111,115,105,116,105,118,101],2,f,i,s,T,fl,is)) else none
  simp only [true_and]
  rfl
 ·unfold takeV saysR
  rw [if_neg (fun h => hk (hold_kd h)),if_neg (fun h => hk h.1)]
theorem says_fmod_1 (op:Int) (kd f i:Int) (s:Str) (T:Ten) (fl is:List Int) (hw:AtW ([102,109,111,100],kd,f,i,s,T,fl,is)):takeV 1 [102,109,111,100] kd f i s T fl is = saysR op 1 ([102,109,111,100],kd,f,i,s,T,fl,is):=by
 obtain ⟨w1,w2,w3,w4,w5⟩:=hw
 simp only at w1 w2 w3 w4 w5
 by_cases hk:kd = 2
 ·subst hk
  have hh:holdB (bndT.getD (1:Int).toNat (0,0,0,0)) 2 i fl.length is = (decide (i = 0) || decide (i = 1)):=by
   show holdB (2,0,1,0) 2 i fl.length is = _
   simp only [holdB,if_true,not_bey]
   all_goals (rw [Bool.eq_iff_iff]; simp only [Bool.and_eq_true,Bool.or_eq_true,decide_eq_true_eq]; omega)
  unfold takeV saysR
  rw [hh]
  show (if (decide (i = 0) || decide (i = 1)) = true then some (wrL [102,109,111,100] i) else none) = if (2:Int) = 2 ∧ (decide (i = 0) || decide (i = 1)) = true then some (setL op ([102,109,111,100],2,f,i,s,T,fl,is)) else none
  simp only [true_and]
  rfl
 ·unfold takeV saysR
  rw [if_neg (fun h => hk (hold_kd h)),if_neg (fun h => hk h.1)]
theorem says_allowzero_1 (op:Int) (kd f i:Int) (s:Str) (T:Ten) (fl is:List Int) (hw:AtW ([97,108,108,111,119,122,101,114,111],kd,f,i,s,T,fl,is)):takeV 1 [97,108,108,111,119,122,101,114,111] kd f i s T fl is = saysR op 1 ([97,108,108,111,119,122,101,114,111],kd,f,i,s,T,fl,is):=by
 obtain ⟨w1,w2,w3,w4,w5⟩:=hw
 simp only at w1 w2 w3 w4 w5
 by_cases hk:kd = 2
 ·subst hk
  have hh:holdB (bndT.getD (1:Int).toNat (0,0,0,0)) 2 i fl.length is = (decide (i = 0) || decide (i = 1)):=by
   show holdB (2,0,1,0) 2 i fl.length is = _
   simp only [holdB,if_true,not_bey]
   all_goals (rw [Bool.eq_iff_iff]; simp only [Bool.and_eq_true,Bool.or_eq_true,decide_eq_true_eq]; omega)
  unfold takeV saysR
  rw [hh]
  show (if (decide (i = 0) || decide (i = 1)) = true then some (wrL [97,108,108,111,119,122,101,114,111] i) else none) = if (2:Int) = 2 ∧ (decide (i = 0) || decide (i = 1)) = true then some (setL op ([97,108,108,111,119,122,101,114,111],2,f,i,s,T,fl,is)) else none
  simp only [true_and]
  rfl
 ·unfold takeV saysR
  rw [if_neg (fun h => hk (hold_kd h)),if_neg (fun h => hk h.1)]
theorem says_keepdims_1 (op:Int) (kd f i:Int) (s:Str) (T:Ten) (fl is:List Int) (hw:AtW ([107,101,101,112,100,105,109,115],kd,f,i,s,T,fl,is)):takeV 1 [107,101,101,112,100,105,109,115] kd f i s T fl is = saysR op 1 ([107,101,101,112,100,105,109,115],kd,f,i,s,T,fl,is):=by
 obtain ⟨w1,w2,w3,w4,w5⟩:=hw
 simp only at w1 w2 w3 w4 w5
 by_cases hk:kd = 2
 ·subst hk
  have hh:holdB (bndT.getD (1:Int).toNat (0,0,0,0)) 2 i fl.length is = (decide (i = 0) || decide (i = 1)):=by
   show holdB (2,0,1,0) 2 i fl.length is = _
   simp only [holdB,if_true,not_bey]
   all_goals (rw [Bool.eq_iff_iff]; simp only [Bool.and_eq_true,Bool.or_eq_true,decide_eq_true_eq]; omega)
  unfold takeV saysR
  rw [hh]
  show (if (decide (i = 0) || decide (i = 1)) = true then some (wrL [107,101,101,112,100,105,109,115] i) else none) = if (2:Int) = 2 ∧ (decide (i = 0) || decide (i = 1)) = true then some (setL op ([107,101,101,112,100,105,109,115],2,f,i,s,T,fl,is)) else none
  simp only [true_and]
  rfl
 ·unfold takeV saysR
  rw [if_neg (fun h => hk (hold_kd h)),if_neg (fun h => hk h.1)]
theorem says_noop_with_empty_axes_1 (op:Int) (kd f i:Int) (s:Str) (T:Ten) (fl is:List Int) (hw:AtW ([110,111,111,112,95,119,105,116,104,95,101,109,112,116,121,95,97,120,101,115],kd,f,i,s,T,fl,is)):takeV 1 [110,111,111,112,95,119,105,116,104,95,101,109,112,116,121,95,97,120,101,115] kd f i s T fl is = saysR op 1 ([110,111,111,112,95,119,105,116,104,95,101,109,112,116,121,95,97,120,101,115],kd,f,i,s,T,fl,is):=by
 obtain ⟨w1,w2,w3,w4,w5⟩:=hw
 simp only at w1 w2 w3 w4 w5
 by_cases hk:kd = 2
 ·subst hk
  have hh:holdB (bndT.getD (1:Int).toNat (0,0,0,0)) 2 i fl.length is = (decide (i = 0) || decide (i = 1)):=by
   show holdB (2,0,1,0) 2 i fl.length is = _
   simp only [holdB,if_true,not_bey]
   all_goals (rw [Bool.eq_iff_iff]; simp only [Bool.and_eq_true,Bool.or_eq_true,decide_eq_true_eq]; omega)
  unfold takeV saysR
  rw [hh]
  show (if (decide (i = 0) || decide (i = 1)) = true then some (wrL [110,111,111,112,95,119,105,116,104,95,101,109,112,116,121,95,97,120,101,115] i) else none) = if (2:Int) = 2 ∧ (decide (i = 0) || decide (i = 1)) = true then some (setL op ([110,111,111,112,95,119,105,116,104,95,101,109,112,116,121,95,97,120,101,115],2,f,i,s,T,fl,is)) else none
  simp only [true_and]
  rfl
 ·unfold takeV saysR
  rw [if_neg (fun h => hk (hold_kd h)),if_neg (fun h => hk h.1)]
theorem says_select_last_index_1 (op:Int) (kd f i:Int) (s:Str) (T:Ten) (fl is:List Int) (hw:AtW ([115,101,108,101,99,116,95,108,97,115,116,95,105,110,100,101,120],kd,f,i,s,T,fl,is)):takeV 1 [115,101,108,101,99,116,95,108,97,115,116,95,105,110,100,101,120] kd f i s T fl is = saysR op 1 ([115,101,108,101,99,116,95,108,97,115,116,95,105,110,100,101,120],kd,f,i,s,T,fl,is):=by
 obtain ⟨w1,w2,w3,w4,w5⟩:=hw
 simp only at w1 w2 w3 w4 w5
 by_cases hk:kd = 2
 ·subst hk
  have hh:holdB (bndT.getD (1:Int).toNat (0,0,0,0)) 2 i fl.length is = (decide (i = 0) || decide (i = 1)):=by
   show holdB (2,0,1,0) 2 i fl.length is = _
   simp only [holdB,if_true,not_bey]
   all_goals (rw [Bool.eq_iff_iff]; simp only [Bool.and_eq_true,Bool.or_eq_true,decide_eq_true_eq]; omega)
  unfold takeV saysR
  rw [hh]
  show (if (decide (i = 0) || decide (i = 1)) = true then some (wrL [115,101,108,101,99,116,95,108,97,115,116,95,105,110,100,101,120] i) else none) = if (2:Int) = 2 ∧ (decide (i = 0) || decide (i = 1)) = true then some (setL op ([115,101,108,101,99,116,95,108,97,115,116,95,105,110,100,101,120],2,f,i,s,T,fl,is)) else none
  simp only [true_and]
  rfl
 ·unfold takeV saysR
  rw [if_neg (fun h => hk (hold_kd h)),if_neg (fun h => hk h.1)]
theorem says_transA_1 (op:Int) (kd f i:Int) (s:Str) (T:Ten) (fl is:List Int) (hw:AtW ([116,114,97,110,115,65],kd,f,i,s,T,fl,is)):takeV 1 [116,114,97,110,115,65] kd f i s T fl is = saysR op 1 ([116,114,97,110,115,65],kd,f,i,s,T,fl,is):=by
 obtain ⟨w1,w2,w3,w4,w5⟩:=hw
 simp only at w1 w2 w3 w4 w5
 by_cases hk:kd = 2
 ·subst hk
  have hh:holdB (bndT.getD (1:Int).toNat (0,0,0,0)) 2 i fl.length is = (decide (i = 0) || decide (i = 1)):=by
   show holdB (2,0,1,0) 2 i fl.length is = _
   simp only [holdB,if_true,not_bey]
   all_goals (rw [Bool.eq_iff_iff]; simp only [Bool.and_eq_true,Bool.or_eq_true,decide_eq_true_eq]; omega)
  unfold takeV saysR
  rw [hh]
  show (if (decide (i = 0) || decide (i = 1)) = true then some (wrL [116,114,97,110,115,65] i) else none) = if (2:Int) = 2 ∧ (decide (i = 0) || decide (i = 1)) = true then some (setL op ([116,114,97,110,115,65],2,f,i,s,T,fl,is)) else none
  simp only [true_and]
  rfl
 ·unfold takeV saysR
  rw [if_neg (fun h => hk (hold_kd h)),if_neg (fun h => hk h.1)]
theorem says_transB_1 (op:Int) (kd f i:Int) (s:Str) (T:Ten) (fl is:List Int) (hw:AtW ([116,114,97,110,115,66],kd,f,i,s,T,fl,is)):takeV 1 [116,114,97,110,115,66] kd f i s T fl is = saysR op 1 ([116,114,97,110,115,66],kd,f,i,s,T,fl,is):=by
 obtain ⟨w1,w2,w3,w4,w5⟩:=hw
 simp only at w1 w2 w3 w4 w5
 by_cases hk:kd = 2
 ·subst hk
  have hh:holdB (bndT.getD (1:Int).toNat (0,0,0,0)) 2 i fl.length is = (decide (i = 0) || decide (i = 1)):=by
   show holdB (2,0,1,0) 2 i fl.length is = _
   simp only [holdB,if_true,not_bey]
   all_goals (rw [Bool.eq_iff_iff]; simp only [Bool.and_eq_true,Bool.or_eq_true,decide_eq_true_eq]; omega)
  unfold takeV saysR
  rw [hh]
  show (if (decide (i = 0) || decide (i = 1)) = true then some (wrL [116,114,97,110,115,66] i) else none) = if (2:Int) = 2 ∧ (decide (i = 0) || decide (i = 1)) = true then some (setL op ([116,114,97,110,115,66],2,f,i,s,T,fl,is)) else none
  simp only [true_and]
  rfl
 ·unfold takeV saysR
  rw [if_neg (fun h => hk (hold_kd h)),if_neg (fun h => hk h.1)]
theorem says_ceil_mode_1 (op:Int) (kd f i:Int) (s:Str) (T:Ten) (fl is:List Int) (hw:AtW ([99,101,105,108,95,109,111,100,101],kd,f,i,s,T,fl,is)):takeV 1 [99,101,105,108,95,109,111,100,101] kd f i s T fl is = saysR op 1 ([99,101,105,108,95,109,111,100,101],kd,f,i,s,T,fl,is):=by
 obtain ⟨w1,w2,w3,w4,w5⟩:=hw
 simp only at w1 w2 w3 w4 w5
 by_cases hk:kd = 2
 ·subst hk
  have hh:holdB (bndT.getD (1:Int).toNat (0,0,0,0)) 2 i fl.length is = (decide (i = 0) || decide (i = 1)):=by
   show holdB (2,0,1,0) 2 i fl.length is = _
   simp only [holdB,if_true,not_bey]
   all_goals (rw [Bool.eq_iff_iff]; simp only [Bool.and_eq_true,Bool.or_eq_true,decide_eq_true_eq]; omega)
  unfold takeV saysR
  rw [hh]
  show (if (decide (i = 0) || decide (i = 1)) = true then some (wrL [99,101,105,108,95,109,111,100,101] i) else none) = if (2:Int) = 2 ∧ (decide (i = 0) || decide (i = 1)) = true then some (setL op ([99,101,105,108,95,109,111,100,101],2,f,i,s,T,fl,is)) else none
  simp only [true_and]
  rfl
 ·unfold takeV saysR
  rw [if_neg (fun h => hk (hold_kd h)),if_neg (fun h => hk h.1)]
theorem says_count_include_pad_1 (op:Int) (kd f i:Int) (s:Str) (T:Ten) (fl is:List Int) (hw:AtW ([99,111,117,110,116,95,105,110,99,108,117,100,101,95,112,97,100],kd,f,i,s,T,fl,is)):takeV 1 [99,111,117,110,116,95,105,110,99,108,117,100,101,95,112,97,100] kd f i s T fl is = saysR op 1 ([99,111,117,110,116,95,105,110,99,108,117,100,101,95,112,97,100],kd,f,i,s,T,fl,is):=by
 obtain ⟨w1,w2,w3,w4,w5⟩:=hw
 simp only at w1 w2 w3 w4 w5
 by_cases hk:kd = 2
 ·subst hk
  have hh:holdB (bndT.getD (1:Int).toNat (0,0,0,0)) 2 i fl.length is = (decide (i = 0) || decide (i = 1)):=by
   show holdB (2,0,1,0) 2 i fl.length is = _
   simp only [holdB,if_true,not_bey]
   all_goals (rw [Bool.eq_iff_iff]; simp only [Bool.and_eq_true,Bool.or_eq_true,decide_eq_true_eq]; omega)
  unfold takeV saysR
  rw [hh]
  show (if (decide (i = 0) || decide (i = 1)) = true then some (wrL [99,111,117,110,116,95,105,110,99,108,117,100,101,95,112,97,100] i) else none) = if (2:Int) = 2 ∧ (decide (i = 0) || decide (i = 1)) = true then some (setL op ([99,111,117,110,116,95,105,110,99,108,117,100,101,95,112,97,100],2,f,i,s,T,fl,is)) else none
  simp only [true_and]
  rfl
 ·unfold takeV saysR
  rw [if_neg (fun h => hk (hold_kd h)),if_neg (fun h => hk h.1)]
theorem says_training_mode_2 (op:Int) (kd f i:Int) (s:Str) (T:Ten) (fl is:List Int) (hw:AtW ([116,114,97,105,110,105,110,103,95,109,111,100,101],kd,f,i,s,T,fl,is)):takeV 2 [116,114,97,105,110,105,110,103,95,109,111,100,101] kd f i s T fl is = saysR op 2 ([116,114,97,105,110,105,110,103,95,109,111,100,101],kd,f,i,s,T,fl,is):=by
 obtain ⟨w1,w2,w3,w4,w5⟩:=hw
 simp only at w1 w2 w3 w4 w5
 by_cases hk:kd = 2
 ·subst hk
  have hh:holdB (bndT.getD (2:Int).toNat (0,0,0,0)) 2 i fl.length is = (decide (i = 0)):=by
   show holdB (2,0,0,0) 2 i fl.length is = _
   simp only [holdB,if_true,not_bey]
   all_goals (rw [Bool.eq_iff_iff]; simp only [Bool.and_eq_true,Bool.or_eq_true,decide_eq_true_eq]; omega)
  unfold takeV saysR
  rw [hh]
  show (if (decide (i = 0)) = true then some (wrL [116,114,97,105,110,105,110,103,95,109,111,100,101] i) else none) = if (2:Int) = 2 ∧ (decide (i = 0)) = true then some (setL op ([116,114,97,105,110,105,110,103,95,109,111,100,101],2,f,i,s,T,fl,is)) else none
  simp only [true_and]
  rfl
 ·unfold takeV saysR
  rw [if_neg (fun h => hk (hold_kd h)),if_neg (fun h => hk h.1)]
theorem says_stash_type_3 (op:Int) (kd f i:Int) (s:Str) (T:Ten) (fl is:List Int) (hw:AtW ([115,116,97,115,104,95,116,121,112,101],kd,f,i,s,T,fl,is)):takeV 3 [115,116,97,115,104,95,116,121,112,101] kd f i s T fl is = saysR op 3 ([115,116,97,115,104,95,116,121,112,101],kd,f,i,s,T,fl,is):=by
 obtain ⟨w1,w2,w3,w4,w5⟩:=hw
 simp only at w1 w2 w3 w4 w5
 by_cases hk:kd = 2
 ·subst hk
  have hh:holdB (bndT.getD (3:Int).toNat (0,0,0,0)) 2 i fl.length is = (decide (i = 1)):=by
   show holdB (2,1,1,0) 2 i fl.length is = _
   simp only [holdB,if_true,not_bey]
   all_goals (rw [Bool.eq_iff_iff]; simp only [Bool.and_eq_true,Bool.or_eq_true,decide_eq_true_eq]; omega)
  unfold takeV saysR
  rw [hh]
  show (if (decide (i = 1)) = true then some (wrL [115,116,97,115,104,95,116,121,112,101] i) else none) = if (2:Int) = 2 ∧ (decide (i = 1)) = true then some (setL op ([115,116,97,115,104,95,116,121,112,101],2,f,i,s,T,fl,is)) else none
  simp only [true_and]
  rfl
 ·unfold takeV saysR
  rw [if_neg (fun h => hk (hold_kd h)),if_neg (fun h => hk h.1)]
theorem says_axis_4 (op:Int) (kd f i:Int) (s:Str) (T:Ten) (fl is:List Int) (hw:AtW ([97,120,105,115],kd,f,i,s,T,fl,is)):takeV 4 [97,120,105,115] kd f i s T fl is = saysR op 4 ([97,120,105,115],kd,f,i,s,T,fl,is):=by
 obtain ⟨w1,w2,w3,w4,w5⟩:=hw
 simp only at w1 w2 w3 w4 w5
 by_cases hk:kd = 2
 ·subst hk
  have hh:holdB (bndT.getD (4:Int).toNat (0,0,0,0)) 2 i fl.length is = (decide (-8 ≤ i) && decide (i ≤ 8)):=by
   show holdB (2,(-8),8,0) 2 i fl.length is = _
   simp only [holdB,if_true,not_bey]
   all_goals (rw [Bool.eq_iff_iff]; simp only [Bool.and_eq_true,Bool.or_eq_true,decide_eq_true_eq]; omega)
  unfold takeV saysR
  rw [hh]
  show (if (decide (-8 ≤ i) && decide (i ≤ 8)) = true then some (wrL [97,120,105,115] i) else none) = if (2:Int) = 2 ∧ (decide (-8 ≤ i) && decide (i ≤ 8)) = true then some (setL op ([97,120,105,115],2,f,i,s,T,fl,is)) else none
  simp only [true_and]
  rfl
 ·unfold takeV saysR
  rw [if_neg (fun h => hk (hold_kd h)),if_neg (fun h => hk h.1)]
theorem says_end_5 (op:Int) (kd f i:Int) (s:Str) (T:Ten) (fl is:List Int) (hw:AtW ([101,110,100],kd,f,i,s,T,fl,is)):takeV 5 [101,110,100] kd f i s T fl is = saysR op 5 ([101,110,100],kd,f,i,s,T,fl,is):=by
 obtain ⟨w1,w2,w3,w4,w5⟩:=hw
 simp only at w1 w2 w3 w4 w5
 by_cases hk:kd = 2
 ·subst hk
  have hh:holdB (bndT.getD (5:Int).toNat (0,0,0,0)) 2 i fl.length is = true:=by
   show holdB (2,(-9223372036854775808),9223372036854775807,0) 2 i fl.length is = true
   simp [holdB,beyB]; (try omega)
  unfold takeV
  rw [if_pos hh]
  rfl
 ·unfold takeV saysR
  rw [if_neg (fun h => hk (hold_kd h)),if_neg (fun h => hk h.1)]
theorem says_start_5 (op:Int) (kd f i:Int) (s:Str) (T:Ten) (fl is:List Int) (hw:AtW ([115,116,97,114,116],kd,f,i,s,T,fl,is)):takeV 5 [115,116,97,114,116] kd f i s T fl is = saysR op 5 ([115,116,97,114,116],kd,f,i,s,T,fl,is):=by
 obtain ⟨w1,w2,w3,w4,w5⟩:=hw
 simp only at w1 w2 w3 w4 w5
 by_cases hk:kd = 2
 ·subst hk
  have hh:holdB (bndT.getD (5:Int).toNat (0,0,0,0)) 2 i fl.length is = true:=by
   show holdB (2,(-9223372036854775808),9223372036854775807,0) 2 i fl.length is = true
   simp [holdB,beyB]; (try omega)
  unfold takeV
  rw [if_pos hh]
  rfl
 ·unfold takeV saysR
  rw [if_neg (fun h => hk (hold_kd h)),if_neg (fun h => hk h.1)]
theorem says_value_int_5 (op:Int) (kd f i:Int) (s:Str) (T:Ten) (fl is:List Int) (hw:AtW ([118,97,108,117,101,95,105,110,116],kd,f,i,s,T,fl,is)):takeV 5 [118,97,108,117,101,95,105,110,116] kd f i s T fl is = saysR op 5 ([118,97,108,117,101,95,105,110,116],kd,f,i,s,T,fl,is):=by
 obtain ⟨w1,w2,w3,w4,w5⟩:=hw
 simp only at w1 w2 w3 w4 w5
 by_cases hk:kd = 2
 ·subst hk
  have hh:holdB (bndT.getD (5:Int).toNat (0,0,0,0)) 2 i fl.length is = true:=by
   show holdB (2,(-9223372036854775808),9223372036854775807,0) 2 i fl.length is = true
   simp [holdB,beyB]; (try omega)
  unfold takeV
  rw [if_pos hh]
  rfl
 ·unfold takeV saysR
  rw [if_neg (fun h => hk (hold_kd h)),if_neg (fun h => hk h.1)]
theorem says_blocksize_6 (op:Int) (kd f i:Int) (s:Str) (T:Ten) (fl is:List Int) (hw:AtW ([98,108,111,99,107,115,105,122,101],kd,f,i,s,T,fl,is)):takeV 6 [98,108,111,99,107,115,105,122,101] kd f i s T fl is = saysR op 6 ([98,108,111,99,107,115,105,122,101],kd,f,i,s,T,fl,is):=by
 obtain ⟨w1,w2,w3,w4,w5⟩:=hw
 simp only at w1 w2 w3 w4 w5
 by_cases hk:kd = 2
 ·subst hk
  have hh:holdB (bndT.getD (6:Int).toNat (0,0,0,0)) 2 i fl.length is = (decide (1 ≤ i) && decide (i ≤ 4096)):=by
   show holdB (2,1,4096,0) 2 i fl.length is = _
   simp only [holdB,if_true,not_bey]
   all_goals (rw [Bool.eq_iff_iff]; simp only [Bool.and_eq_true,Bool.or_eq_true,decide_eq_true_eq]; omega)
  unfold takeV saysR
  rw [hh]
  show (if (decide (1 ≤ i) && decide (i ≤ 4096)) = true then some (wrL [98,108,111,99,107,115,105,122,101] i) else none) = if (2:Int) = 2 ∧ (decide (1 ≤ i) && decide (i ≤ 4096)) = true then some (setL op ([98,108,111,99,107,115,105,122,101],2,f,i,s,T,fl,is)) else none
  simp only [true_and]
  rfl
 ·unfold takeV saysR
  rw [if_neg (fun h => hk (hold_kd h)),if_neg (fun h => hk h.1)]
theorem says_group_6 (op:Int) (kd f i:Int) (s:Str) (T:Ten) (fl is:List Int) (hw:AtW ([103,114,111,117,112],kd,f,i,s,T,fl,is)):takeV 6 [103,114,111,117,112] kd f i s T fl is = saysR op 6 ([103,114,111,117,112],kd,f,i,s,T,fl,is):=by
 obtain ⟨w1,w2,w3,w4,w5⟩:=hw
 simp only at w1 w2 w3 w4 w5
 by_cases hk:kd = 2
 ·subst hk
  have hh:holdB (bndT.getD (6:Int).toNat (0,0,0,0)) 2 i fl.length is = (decide (1 ≤ i) && decide (i ≤ 4096)):=by
   show holdB (2,1,4096,0) 2 i fl.length is = _
   simp only [holdB,if_true,not_bey]
   all_goals (rw [Bool.eq_iff_iff]; simp only [Bool.and_eq_true,Bool.or_eq_true,decide_eq_true_eq]; omega)
  unfold takeV saysR
  rw [hh]
  show (if (decide (1 ≤ i) && decide (i ≤ 4096)) = true then some (wrL [103,114,111,117,112] i) else none) = if (2:Int) = 2 ∧ (decide (1 ≤ i) && decide (i ≤ 4096)) = true then some (setL op ([103,114,111,117,112],2,f,i,s,T,fl,is)) else none
  simp only [true_and]
  rfl
 ·unfold takeV saysR
  rw [if_neg (fun h => hk (hold_kd h)),if_neg (fun h => hk h.1)]
theorem says_to_7 (op:Int) (kd f i:Int) (s:Str) (T:Ten) (fl is:List Int) (hw:AtW ([116,111],kd,f,i,s,T,fl,is)):takeV 7 [116,111] kd f i s T fl is = saysR op 7 ([116,111],kd,f,i,s,T,fl,is):=by
 obtain ⟨w1,w2,w3,w4,w5⟩:=hw
 simp only at w1 w2 w3 w4 w5
 by_cases hk:kd = 2
 ·subst hk
  show (if holdB (2,1,9,0) 2 i fl.length is = true then (if knownB i = true then some (wrL [116,111] i) else none) else none) = if (2:Int) = 2 ∧ knownB i = true then some (wrL [116,111] i) else none
  by_cases hn:knownB i = true
  ·have hh:holdB (2,1,9,0) 2 i fl.length is = true:=by
    simp only [knownB,Bool.or_eq_true,decide_eq_true_eq,beq_iff_eq] at hn
    simp [holdB,beyB]; omega
   rw [if_pos hh,if_pos hn,if_pos ⟨rfl,hn⟩]
  ·have h2:¬ ((2:Int) = 2 ∧ knownB i = true):=fun h => hn h.2
   rw [if_neg h2,if_neg hn,ite_self]
 ·unfold takeV saysR
  rw [if_neg (fun h => hk (hold_kd h)),if_neg (fun h => hk h.1)]
theorem says_reduction_8 (op:Int) (kd f i:Int) (s:Str) (T:Ten) (fl is:List Int) (hw:AtW ([114,101,100,117,99,116,105,111,110],kd,f,i,s,T,fl,is)):takeV 8 [114,101,100,117,99,116,105,111,110] kd f i s T fl is = saysR op 8 ([114,101,100,117,99,116,105,111,110],kd,f,i,s,T,fl,is):=by
 obtain ⟨w1,w2,w3,w4,w5⟩:=hw
 simp only at w1 w2 w3 w4 w5
 by_cases hk:kd = 3
 ·subst hk
  have hm:(modeR op [114,101,100,117,99,116,105,111,110] s = (modeV 8 s).1 ∧ (modeV 8 s).2 = true ∧ 0 ≤ modeR op [114,101,100,117,99,116,105,111,110] s) ∨ (modeR op [114,101,100,117,99,116,105,111,110] s = -1 ∧ (modeV 8 s).2 = false):=by
   by_cases m0:s = [110,111,110,101]
   ·subst m0; exact .inl (by unfold modeR modeV; simp [choT])
   by_cases m1:s = [97,100,100]
   ·subst m1; exact .inl (by unfold modeR modeV; simp [choT])
   by_cases m2:s = [109,117,108]
   ·subst m2; exact .inl (by unfold modeR modeV; simp [choT])
   have k0:¬ [110,111,110,101] = s:=fun h => m0 h.symm
   have k1:¬ [97,100,100] = s:=fun h => m1 h.symm
   have k2:¬ [109,117,108] = s:=fun h => m2 h.symm
   refine .inr ⟨?_,?_⟩
   ·unfold modeR; simp [m0,m1,m2]
   ·unfold modeV; simp [choT,k0,k1,k2]
  unfold takeV saysR
  show (if true = true then (if (modeV 8 s).2 = true then some (wrL [114,101,100,117,99,116,105,111,110] (modeV 8 s).1) else none) else none) = if (3:Int) = 3 ∧ decide (0 ≤ modeR op [114,101,100,117,99,116,105,111,110] s) = true then some [(16,FV.i (modeR op [114,101,100,117,99,116,105,111,110] s))] else none
  rcases hm with ⟨h1,h2,h3⟩ | ⟨h1,h2⟩
  ·rw [if_pos rfl,if_pos h2,if_pos ⟨rfl,by simpa using h3⟩,h1]; rfl
  ·rw [if_pos rfl,if_neg (by rw [h2]; decide),if_neg (fun h => by rw [h1] at h; simp at h)]
 ·unfold takeV saysR
  rw [if_neg (fun h => hk (hold_kd h)),if_neg (fun h => hk h.1)]
theorem says_mode_9 (kd f i:Int) (s:Str) (T:Ten) (fl is:List Int) (hw:AtW ([109,111,100,101],kd,f,i,s,T,fl,is)):takeV 9 [109,111,100,101] kd f i s T fl is = saysR 53 9 ([109,111,100,101],kd,f,i,s,T,fl,is):=by
 obtain ⟨w1,w2,w3,w4,w5⟩:=hw
 simp only at w1 w2 w3 w4 w5
 by_cases hk:kd = 3
 ·subst hk
  have hm:(modeR 53 [109,111,100,101] s = (modeV 9 s).1 ∧ (modeV 9 s).2 = true ∧ 0 ≤ modeR 53 [109,111,100,101] s) ∨ (modeR 53 [109,111,100,101] s = -1 ∧ (modeV 9 s).2 = false):=by
   by_cases m0:s = [99,111,110,115,116,97,110,116]
   ·subst m0; exact .inl (by unfold modeR modeV; simp [choT])
   by_cases m1:s = [114,101,102,108,101,99,116]
   ·subst m1; exact .inl (by unfold modeR modeV; simp [choT])
   by_cases m2:s = [101,100,103,101]
   ·subst m2; exact .inl (by unfold modeR modeV; simp [choT])
   have k0:¬ [99,111,110,115,116,97,110,116] = s:=fun h => m0 h.symm
   have k1:¬ [114,101,102,108,101,99,116] = s:=fun h => m1 h.symm
   have k2:¬ [101,100,103,101] = s:=fun h => m2 h.symm
   refine .inr ⟨?_,?_⟩
   ·unfold modeR; simp [m0,m1,m2]
   ·unfold modeV; simp [choT,k0,k1,k2]
  unfold takeV saysR
  show (if true = true then (if (modeV 9 s).2 = true then some (wrL [109,111,100,101] (modeV 9 s).1) else none) else none) = if (3:Int) = 3 ∧ decide (0 ≤ modeR 53 [109,111,100,101] s) = true then some [(16,FV.i (modeR 53 [109,111,100,101] s))] else none
  rcases hm with ⟨h1,h2,h3⟩ | ⟨h1,h2⟩
  ·rw [if_pos rfl,if_pos h2,if_pos ⟨rfl,by simpa using h3⟩,h1]; rfl
  ·rw [if_pos rfl,if_neg (by rw [h2]; decide),if_neg (fun h => by rw [h1] at h; simp at h)]
 ·unfold takeV saysR
  rw [if_neg (fun h => hk (hold_kd h)),if_neg (fun h => hk h.1)]
theorem says_mode_10 (kd f i:Int) (s:Str) (T:Ten) (fl is:List Int) (hw:AtW ([109,111,100,101],kd,f,i,s,T,fl,is)):takeV 10 [109,111,100,101] kd f i s T fl is = saysR 63 10 ([109,111,100,101],kd,f,i,s,T,fl,is):=by
 obtain ⟨w1,w2,w3,w4,w5⟩:=hw
 simp only at w1 w2 w3 w4 w5
 by_cases hk:kd = 3
 ·subst hk
  have hm:(modeR 63 [109,111,100,101] s = (modeV 10 s).1 ∧ (modeV 10 s).2 = true ∧ 0 ≤ modeR 63 [109,111,100,101] s) ∨ (modeR 63 [109,111,100,101] s = -1 ∧ (modeV 10 s).2 = false):=by
   by_cases m0:s = [68,67,82]
   ·subst m0; exact .inl (by unfold modeR modeV; simp [choT])
   by_cases m1:s = [67,82,68]
   ·subst m1; exact .inl (by unfold modeR modeV; simp [choT])
   have k0:¬ [68,67,82] = s:=fun h => m0 h.symm
   have k1:¬ [67,82,68] = s:=fun h => m1 h.symm
   refine .inr ⟨?_,?_⟩
   ·unfold modeR; simp [m0,m1]
   ·unfold modeV; simp [choT,k0,k1]
  unfold takeV saysR
  show (if true = true then (if (modeV 10 s).2 = true then some (wrL [109,111,100,101] (modeV 10 s).1) else none) else none) = if (3:Int) = 3 ∧ decide (0 ≤ modeR 63 [109,111,100,101] s) = true then some [(16,FV.i (modeR 63 [109,111,100,101] s))] else none
  rcases hm with ⟨h1,h2,h3⟩ | ⟨h1,h2⟩
  ·rw [if_pos rfl,if_pos h2,if_pos ⟨rfl,by simpa using h3⟩,h1]; rfl
  ·rw [if_pos rfl,if_neg (by rw [h2]; decide),if_neg (fun h => by rw [h1] at h; simp at h)]
 ·unfold takeV saysR
  rw [if_neg (fun h => hk (hold_kd h)),if_neg (fun h => hk h.1)]
theorem says_auto_pad_11 (op:Int) (kd f i:Int) (s:Str) (T:Ten) (fl is:List Int) (hw:AtW ([97,117,116,111,95,112,97,100],kd,f,i,s,T,fl,is)):takeV 11 [97,117,116,111,95,112,97,100] kd f i s T fl is = saysR op 11 ([97,117,116,111,95,112,97,100],kd,f,i,s,T,fl,is):=by
 obtain ⟨w1,w2,w3,w4,w5⟩:=hw
 simp only at w1 w2 w3 w4 w5
 by_cases hk:kd = 3
 ·subst hk
  have hm:(modeR op [97,117,116,111,95,112,97,100] s = (modeV 11 s).1 ∧ (modeV 11 s).2 = true ∧ 0 ≤ modeR op [97,117,116,111,95,112,97,100] s) ∨ (modeR op [97,117,116,111,95,112,97,100] s = -1 ∧ (modeV 11 s).2 = false):=by
   by_cases m0:s = [78,79,84,83,69,84]
   ·subst m0; exact .inl (by unfold modeR modeV; simp [choT])
   by_cases m1:s = [86,65,76,73,68]
   ·subst m1; exact .inl (by unfold modeR modeV; simp [choT])
   by_cases m2:s = [83,65,77,69,95,85,80,80,69,82]
   ·subst m2; exact .inl (by unfold modeR modeV; simp [choT])
   by_cases m3:s = [83,65,77,69,95,76,79,87,69,82]
   ·subst m3; exact .inl (by unfold modeR modeV; simp [choT])
   have k0:¬ [78,79,84,83,69,84] = s:=fun h => m0 h.symm
   have k1:¬ [86,65,76,73,68] = s:=fun h => m1 h.symm
   have k2:¬ [83,65,77,69,95,85,80,80,69,82] = s:=fun h => m2 h.symm
   have k3:¬ [83,65,77,69,95,76,79,87,69,82] = s:=fun h => m3 h.symm
   refine .inr ⟨?_,?_⟩
   ·unfold modeR; simp [m0,m1,m2,m3]
   ·unfold modeV; simp [choT,k0,k1,k2,k3]
  unfold takeV saysR
  show (if true = true then (if (modeV 11 s).2 = true then some (wrL [97,117,116,111,95,112,97,100] (modeV 11 s).1) else none) else none) = if (3:Int) = 3 ∧ decide (0 ≤ modeR op [97,117,116,111,95,112,97,100] s) = true then some [(24,FV.i (modeR op [97,117,116,111,95,112,97,100] s))] else none
  rcases hm with ⟨h1,h2,h3⟩ | ⟨h1,h2⟩
  ·rw [if_pos rfl,if_pos h2,if_pos ⟨rfl,by simpa using h3⟩,h1]; rfl
  ·rw [if_pos rfl,if_neg (by rw [h2]; decide),if_neg (fun h => by rw [h1] at h; simp at h)]
 ·unfold takeV saysR
  rw [if_neg (fun h => hk (hold_kd h)),if_neg (fun h => hk h.1)]
theorem says_value_12 (op:Int) (kd f i:Int) (s:Str) (T:Ten) (fl is:List Int) (hw:AtW ([118,97,108,117,101],kd,f,i,s,T,fl,is)):takeV 12 [118,97,108,117,101] kd f i s T fl is = saysR op 12 ([118,97,108,117,101],kd,f,i,s,T,fl,is):=by
 obtain ⟨w1,w2,w3,w4,w5⟩:=hw
 simp only at w1 w2 w3 w4 w5
 by_cases hk:kd = 4
 ·subst hk
  rfl
 ·unfold takeV saysR
  rw [if_neg (fun h => hk (hold_kd h)),if_neg (fun h => hk h.1)]
theorem says_value_13 (op:Int) (kd f i:Int) (s:Str) (T:Ten) (fl is:List Int) (hw:AtW ([118,97,108,117,101],kd,f,i,s,T,fl,is)):takeV 13 [118,97,108,117,101] kd f i s T fl is = saysR op 13 ([118,97,108,117,101],kd,f,i,s,T,fl,is):=by
 obtain ⟨w1,w2,w3,w4,w5⟩:=hw
 simp only at w1 w2 w3 w4 w5
 by_cases hk:kd = 4
 ·subst hk
  unfold takeV saysR
  show (if true = true then (if T.2.2.1.length + T.2.2.2.1.length + T.2.2.2.2.length = 1 then some [(31,FV.t T)] else none) else none) = if (4:Int) = 4 ∧ decide (T.2.2.1.length + T.2.2.2.1.length + T.2.2.2.2.length = 1) = true then some [(31,FV.t T)] else none
  simp only [if_true,true_and,decide_eq_true_eq]
 ·unfold takeV saysR
  rw [if_neg (fun h => hk (hold_kd h)),if_neg (fun h => hk h.1)]
theorem says_value_floats_14 (op:Int) (kd f i:Int) (s:Str) (T:Ten) (fl is:List Int) (hw:AtW ([118,97,108,117,101,95,102,108,111,97,116,115],kd,f,i,s,T,fl,is)):takeV 14 [118,97,108,117,101,95,102,108,111,97,116,115] kd f i s T fl is = saysR op 14 ([118,97,108,117,101,95,102,108,111,97,116,115],kd,f,i,s,T,fl,is):=by
 obtain ⟨w1,w2,w3,w4,w5⟩:=hw
 simp only at w1 w2 w3 w4 w5
 by_cases hk:kd = 6
 ·subst hk
  have hh:holdB (bndT.getD (14:Int).toNat (0,0,0,0)) 6 i fl.length is = decide (fl.length ≤ 4096):=by
   show holdB (6,0,0,4096) 6 i fl.length is = _
   simp [holdB] <;> (try omega)
  unfold takeV saysR
  rw [hh]
  show (if decide (fl.length ≤ 4096) = true then some [(31,FV.t (1,[(fl.length:Int)],fl,[],[]))] else none) = if (6:Int) = 6 ∧ decide (fl.length ≤ 4096) = true then some [(31,FV.t (1,[(fl.length:Int)],fl,[],[]))] else none
  simp only [true_and]
 ·unfold takeV saysR
  rw [if_neg (fun h => hk (hold_kd h)),if_neg (fun h => hk h.1)]
theorem says_value_ints_15 (op:Int) (kd f i:Int) (s:Str) (T:Ten) (fl is:List Int) (hw:AtW ([118,97,108,117,101,95,105,110,116,115],kd,f,i,s,T,fl,is)):takeV 15 [118,97,108,117,101,95,105,110,116,115] kd f i s T fl is = saysR op 15 ([118,97,108,117,101,95,105,110,116,115],kd,f,i,s,T,fl,is):=by
 obtain ⟨w1,w2,w3,w4,w5⟩:=hw
 simp only at w1 w2 w3 w4 w5
 by_cases hk:kd = 7
 ·subst hk
  have ha:is.any (beyB (-9223372036854775808) 9223372036854775807) = false:=by
   rw [List.any_eq_false]; intro x hx; have:=w5 x hx; simp [beyB]; omega
  have hh:holdB (bndT.getD (15:Int).toNat (0,0,0,0)) 7 i fl.length is = decide (is.length ≤ 4096):=by
   show holdB (7,(-9223372036854775808),9223372036854775807,4096) 7 i fl.length is = _
   simp only [holdB]
   simp [ha] <;> (try omega)
  unfold takeV saysR
  rw [hh]
  show (if decide (is.length ≤ 4096) = true then some [(31,FV.t (7,[(is.length:Int)],[],is,[]))] else none) = if (7:Int) = 7 ∧ decide (is.length ≤ 4096) = true then some [(31,FV.t (7,[(is.length:Int)],[],is,[]))] else none
  simp only [true_and]
 ·unfold takeV saysR
  rw [if_neg (fun h => hk (hold_kd h)),if_neg (fun h => hk h.1)]
theorem says_perm_16 (op:Int) (kd f i:Int) (s:Str) (T:Ten) (fl is:List Int) (hw:AtW ([112,101,114,109],kd,f,i,s,T,fl,is)):takeV 16 [112,101,114,109] kd f i s T fl is = saysR op 16 ([112,101,114,109],kd,f,i,s,T,fl,is):=by
 obtain ⟨w1,w2,w3,w4,w5⟩:=hw
 simp only at w1 w2 w3 w4 w5
 by_cases hk:kd = 7
 ·subst hk
  unfold takeV saysR
  show (if withinR is 8 0 7 = true then some (wlL [112,101,114,109] is) else none) = if (7:Int) = 7 ∧ withinR is 8 0 7 = true then some (setL op ([112,101,114,109],7,f,i,s,T,fl,is)) else none
  simp only [true_and]
  rfl
 ·unfold takeV saysR
  rw [if_neg (fun h => hk (hold_kd h)),if_neg (fun h => hk h.1)]
theorem says_axes_17 (op:Int) (kd f i:Int) (s:Str) (T:Ten) (fl is:List Int) (hw:AtW ([97,120,101,115],kd,f,i,s,T,fl,is)):takeV 17 [97,120,101,115] kd f i s T fl is = saysR op 17 ([97,120,101,115],kd,f,i,s,T,fl,is):=by
 obtain ⟨w1,w2,w3,w4,w5⟩:=hw
 simp only at w1 w2 w3 w4 w5
 by_cases hk:kd = 7
 ·subst hk
  unfold takeV saysR
  show (if withinR is 8 (-8) 8 = true then some (wlL [97,120,101,115] is) else none) = if (7:Int) = 7 ∧ withinR is 8 (-8) 8 = true then some (setL op ([97,120,101,115],7,f,i,s,T,fl,is)) else none
  simp only [true_and]
  rfl
 ·unfold takeV saysR
  rw [if_neg (fun h => hk (hold_kd h)),if_neg (fun h => hk h.1)]
theorem says_dilations_18 (op:Int) (kd f i:Int) (s:Str) (T:Ten) (fl is:List Int) (hw:AtW ([100,105,108,97,116,105,111,110,115],kd,f,i,s,T,fl,is)):takeV 18 [100,105,108,97,116,105,111,110,115] kd f i s T fl is = saysR op 18 ([100,105,108,97,116,105,111,110,115],kd,f,i,s,T,fl,is):=by
 obtain ⟨w1,w2,w3,w4,w5⟩:=hw
 simp only at w1 w2 w3 w4 w5
 by_cases hk:kd = 7
 ·subst hk
  unfold takeV saysR
  show (if withinR is 8 1 4096 = true then some (wlL [100,105,108,97,116,105,111,110,115] is) else none) = if (7:Int) = 7 ∧ withinR is 8 1 4096 = true then some (setL op ([100,105,108,97,116,105,111,110,115],7,f,i,s,T,fl,is)) else none
  simp only [true_and]
  rfl
 ·unfold takeV saysR
  rw [if_neg (fun h => hk (hold_kd h)),if_neg (fun h => hk h.1)]
theorem says_kernel_shape_18 (op:Int) (kd f i:Int) (s:Str) (T:Ten) (fl is:List Int) (hw:AtW ([107,101,114,110,101,108,95,115,104,97,112,101],kd,f,i,s,T,fl,is)):takeV 18 [107,101,114,110,101,108,95,115,104,97,112,101] kd f i s T fl is = saysR op 18 ([107,101,114,110,101,108,95,115,104,97,112,101],kd,f,i,s,T,fl,is):=by
 obtain ⟨w1,w2,w3,w4,w5⟩:=hw
 simp only at w1 w2 w3 w4 w5
 by_cases hk:kd = 7
 ·subst hk
  unfold takeV saysR
  show (if withinR is 8 1 4096 = true then some (wlL [107,101,114,110,101,108,95,115,104,97,112,101] is) else none) = if (7:Int) = 7 ∧ withinR is 8 1 4096 = true then some (setL op ([107,101,114,110,101,108,95,115,104,97,112,101],7,f,i,s,T,fl,is)) else none
  simp only [true_and]
  rfl
 ·unfold takeV saysR
  rw [if_neg (fun h => hk (hold_kd h)),if_neg (fun h => hk h.1)]
theorem says_strides_18 (op:Int) (kd f i:Int) (s:Str) (T:Ten) (fl is:List Int) (hw:AtW ([115,116,114,105,100,101,115],kd,f,i,s,T,fl,is)):takeV 18 [115,116,114,105,100,101,115] kd f i s T fl is = saysR op 18 ([115,116,114,105,100,101,115],kd,f,i,s,T,fl,is):=by
 obtain ⟨w1,w2,w3,w4,w5⟩:=hw
 simp only at w1 w2 w3 w4 w5
 by_cases hk:kd = 7
 ·subst hk
  unfold takeV saysR
  show (if withinR is 8 1 4096 = true then some (wlL [115,116,114,105,100,101,115] is) else none) = if (7:Int) = 7 ∧ withinR is 8 1 4096 = true then some (setL op ([115,116,114,105,100,101,115],7,f,i,s,T,fl,is)) else none
  simp only [true_and]
  rfl
 ·unfold takeV saysR
  rw [if_neg (fun h => hk (hold_kd h)),if_neg (fun h => hk h.1)]
theorem says_pads_19 (op:Int) (kd f i:Int) (s:Str) (T:Ten) (fl is:List Int) (hw:AtW ([112,97,100,115],kd,f,i,s,T,fl,is)):takeV 19 [112,97,100,115] kd f i s T fl is = saysR op 19 ([112,97,100,115],kd,f,i,s,T,fl,is):=by
 obtain ⟨w1,w2,w3,w4,w5⟩:=hw
 simp only at w1 w2 w3 w4 w5
 by_cases hk:kd = 7
 ·subst hk
  unfold takeV saysR
  show (if withinR is 16 0 4096 = true then some (wlL [112,97,100,115] is) else none) = if (7:Int) = 7 ∧ withinR is 16 0 4096 = true then some (setL op ([112,97,100,115],7,f,i,s,T,fl,is)) else none
  simp only [true_and]
  rfl
 ·unfold takeV saysR
  rw [if_neg (fun h => hk (hold_kd h)),if_neg (fun h => hk h.1)]
end Go.Proofs.Ytnmciappielkcaa
