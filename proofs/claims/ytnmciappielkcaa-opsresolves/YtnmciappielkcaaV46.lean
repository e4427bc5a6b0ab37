import Derived.Test.YtnmciappielkcaaV45
set_option maxRecDepth 100000
set_option maxHeartbeats 8000000
namespace Go.Proofs.Ytnmciappielkcaa
open Go.RowKit
set_option linter.unusedVariables false
set_option linter.unusedSimpArgs false
theorem rmode8_any (op:Int) (nm s:Str) (w:World) (hn:isB nm) (hs:isB s) :
  Calls Try.prog 36 #[.int .i64 op,strV nm,strV s] w fun e w' => e = .returned (.int .i64 (modeR op nm s)) ∧ w' = w:=by
 unfold strV
 obtain ⟨Z,hZ⟩:∃ Z,modeR op nm s = Z:=⟨_,rfl⟩
 rw [hZ]
 have HZ:=hide hZ
 clear hZ
 have HN:=hide hn
 have HS:=hide hs
 clear hn hs
 by_cases ea:nm = [97,117,116,111,95,112,97,100]
 ·
  by_cases et0:s = [78,79,84,83,69,84]
  ·
   have fa:((strOfNums nm).toList == [97,117,116,111,95,112,97,100]) = true:=lit_yes8 (uh HN) [97,117,116,111,95,112,97,100] rfl _ rfl ea
   have er:¬ nm = [114,101,100,117,99,116,105,111,110]:=by rw [ea]; decide
   have em:¬ nm = [109,111,100,101]:=by rw [ea]; decide
   have fr:((strOfNums nm).toList == [114,101,100,117,99,116,105,111,110]) = false:=lit_no8 (uh HN) [114,101,100,117,99,116,105,111,110] rfl _ rfl er
   have fm:((strOfNums nm).toList == [109,111,100,101]) = false:=lit_no8 (uh HN) [109,111,100,101] rfl _ rfl em
   have ft0:((strOfNums s).toList == [78,79,84,83,69,84]) = true:=lit_yes8 (uh HS) [78,79,84,83,69,84] rfl _ rfl et0
   have HF:Hid (Z = 0):=hide (by rw [← uh HZ]; unfold modeR; simp [ea,et0])
   clear ea er em et0
   go_enter Try.func36,Try.ntmps36
   go_wp2_with fail
   all_goals go_ret
   all_goals exact ⟨by rw [uh HF]; rfl,rfl⟩
  by_cases et1:s = [86,65,76,73,68]
  ·
   have fa:((strOfNums nm).toList == [97,117,116,111,95,112,97,100]) = true:=lit_yes8 (uh HN) [97,117,116,111,95,112,97,100] rfl _ rfl ea
   have er:¬ nm = [114,101,100,117,99,116,105,111,110]:=by rw [ea]; decide
   have em:¬ nm = [109,111,100,101]:=by rw [ea]; decide
   have fr:((strOfNums nm).toList == [114,101,100,117,99,116,105,111,110]) = false:=lit_no8 (uh HN) [114,101,100,117,99,116,105,111,110] rfl _ rfl er
   have fm:((strOfNums nm).toList == [109,111,100,101]) = false:=lit_no8 (uh HN) [109,111,100,101] rfl _ rfl em
   have ft0:((strOfNums s).toList == [78,79,84,83,69,84]) = false:=lit_no8 (uh HS) [78,79,84,83,69,84] rfl _ rfl et0
   have ft1:((strOfNums s).toList == [86,65,76,73,68]) = true:=lit_yes8 (uh HS) [86,65,76,73,68] rfl _ rfl et1
   have HF:Hid (Z = 8):=hide (by rw [← uh HZ]; unfold modeR; simp [ea,et0,et1])
   clear ea er em et0 et1
   go_enter Try.func36,Try.ntmps36
   go_wp2_with fail
   all_goals go_ret
   all_goals exact ⟨by rw [uh HF]; rfl,rfl⟩
  by_cases et2:s = [83,65,77,69,95,85,80,80,69,82]
  ·
   have fa:((strOfNums nm).toList == [97,117,116,111,95,112,97,100]) = true:=lit_yes8 (uh HN) [97,117,116,111,95,112,97,100] rfl _ rfl ea
   have er:¬ nm = [114,101,100,117,99,116,105,111,110]:=by rw [ea]; decide
   have em:¬ nm = [109,111,100,101]:=by rw [ea]; decide
   have fr:((strOfNums nm).toList == [114,101,100,117,99,116,105,111,110]) = false:=lit_no8 (uh HN) [114,101,100,117,99,116,105,111,110] rfl _ rfl er
   have fm:((strOfNums nm).toList == [109,111,100,101]) = false:=lit_no8 (uh HN) [109,111,100,101] rfl _ rfl em
   have ft0:((strOfNums s).toList == [78,79,84,83,69,84]) = false:=lit_no8 (uh HS) [78,79,84,83,69,84] rfl _ rfl et0
   have ft1:((strOfNums s).toList == [86,65,76,73,68]) = false:=lit_no8 (uh HS) [86,65,76,73,68] rfl _ rfl et1
   have ft2:((strOfNums s).toList == [83,65,77,69,95,85,80,80,69,82]) = true:=lit_yes8 (uh HS) [83,65,77,69,95,85,80,80,69,82] rfl _ rfl et2
   have HF:Hid (Z = 9):=hide (by rw [← uh HZ]; unfold modeR; simp [ea,et0,et1,et2])
   clear ea er em et0 et1 et2
   go_enter Try.func36,Try.ntmps36
   go_wp2_with fail
   all_goals go_ret
   all_goals exact ⟨by rw [uh HF]; rfl,rfl⟩
  by_cases et3:s = [83,65,77,69,95,76,79,87,69,82]
  ·
   have fa:((strOfNums nm).toList == [97,117,116,111,95,112,97,100]) = true:=lit_yes8 (uh HN) [97,117,116,111,95,112,97,100] rfl _ rfl ea
   have er:¬ nm = [114,101,100,117,99,116,105,111,110]:=by rw [ea]; decide
   have em:¬ nm = [109,111,100,101]:=by rw [ea]; decide
   have fr:((strOfNums nm).toList == [114,101,100,117,99,116,105,111,110]) = false:=lit_no8 (uh HN) [114,101,100,117,99,116,105,111,110] rfl _ rfl er
   have fm:((strOfNums nm).toList == [109,111,100,101]) = false:=lit_no8 (uh HN) [109,111,100,101] rfl _ rfl em
   have ft0:((strOfNums s).toList == [78,79,84,83,69,84]) = false:=lit_no8 (uh HS) [78,79,84,83,69,84] rfl _ rfl et0
   have ft1:((strOfNums s).toList == [86,65,76,73,68]) = false:=lit_no8 (uh HS) [86,65,76,73,68] rfl _ rfl et1
   have ft2:((strOfNums s).toList == [83,65,77,69,95,85,80,80,69,82]) = false:=lit_no8 (uh HS) [83,65,77,69,95,85,80,80,69,82] rfl _ rfl et2
   have ft3:((strOfNums s).toList == [83,65,77,69,95,76,79,87,69,82]) = true:=lit_yes8 (uh HS) [83,65,77,69,95,76,79,87,69,82] rfl _ rfl et3
   have HF:Hid (Z = 10):=hide (by rw [← uh HZ]; unfold modeR; simp [ea,et0,et1,et2,et3])
   clear ea er em et0 et1 et2 et3
   go_enter Try.func36,Try.ntmps36
   go_wp2_with fail
   all_goals go_ret
   all_goals exact ⟨by rw [uh HF]; rfl,rfl⟩
  have fa:((strOfNums nm).toList == [97,117,116,111,95,112,97,100]) = true:=lit_yes8 (uh HN) [97,117,116,111,95,112,97,100] rfl _ rfl ea
  have er:¬ nm = [114,101,100,117,99,116,105,111,110]:=by rw [ea]; decide
  have em:¬ nm = [109,111,100,101]:=by rw [ea]; decide
  have fr:((strOfNums nm).toList == [114,101,100,117,99,116,105,111,110]) = false:=lit_no8 (uh HN) [114,101,100,117,99,116,105,111,110] rfl _ rfl er
  have fm:((strOfNums nm).toList == [109,111,100,101]) = false:=lit_no8 (uh HN) [109,111,100,101] rfl _ rfl em
  have ft0:((strOfNums s).toList == [78,79,84,83,69,84]) = false:=lit_no8 (uh HS) [78,79,84,83,69,84] rfl _ rfl et0
  have ft1:((strOfNums s).toList == [86,65,76,73,68]) = false:=lit_no8 (uh HS) [86,65,76,73,68] rfl _ rfl et1
  have ft2:((strOfNums s).toList == [83,65,77,69,95,85,80,80,69,82]) = false:=lit_no8 (uh HS) [83,65,77,69,95,85,80,80,69,82] rfl _ rfl et2
  have ft3:((strOfNums s).toList == [83,65,77,69,95,76,79,87,69,82]) = false:=lit_no8 (uh HS) [83,65,77,69,95,76,79,87,69,82] rfl _ rfl et3
  have HF:Hid (Z = -1):=hide (by rw [← uh HZ]; unfold modeR; simp [ea,et0,et1,et2,et3])
  clear ea er em et0 et1 et2 et3
  go_enter Try.func36,Try.ntmps36
  go_wp2_with fail
  all_goals go_ret
  all_goals exact ⟨by rw [uh HF]; rfl,rfl⟩
 by_cases er:nm = [114,101,100,117,99,116,105,111,110]
 ·
  by_cases et0:s = [110,111,110,101]
  ·
   have fr:((strOfNums nm).toList == [114,101,100,117,99,116,105,111,110]) = true:=lit_yes8 (uh HN) [114,101,100,117,99,116,105,111,110] rfl _ rfl er
   have em:¬ nm = [109,111,100,101]:=by rw [er]; decide
   have fa:((strOfNums nm).toList == [97,117,116,111,95,112,97,100]) = false:=lit_no8 (uh HN) [97,117,116,111,95,112,97,100] rfl _ rfl ea
   have fm:((strOfNums nm).toList == [109,111,100,101]) = false:=lit_no8 (uh HN) [109,111,100,101] rfl _ rfl em
   have ft0:((strOfNums s).toList == [110,111,110,101]) = true:=lit_yes8 (uh HS) [110,111,110,101] rfl _ rfl et0
   have HF:Hid (Z = 0):=hide (by rw [← uh HZ]; unfold modeR; simp [er,et0])
   clear ea er em et0
   go_enter Try.func36,Try.ntmps36
   go_wp2_with fail
   all_goals go_ret
   all_goals exact ⟨by rw [uh HF]; rfl,rfl⟩
  by_cases et1:s = [97,100,100]
  ·
   have fr:((strOfNums nm).toList == [114,101,100,117,99,116,105,111,110]) = true:=lit_yes8 (uh HN) [114,101,100,117,99,116,105,111,110] rfl _ rfl er
   have em:¬ nm = [109,111,100,101]:=by rw [er]; decide
   have fa:((strOfNums nm).toList == [97,117,116,111,95,112,97,100]) = false:=lit_no8 (uh HN) [97,117,116,111,95,112,97,100] rfl _ rfl ea
   have fm:((strOfNums nm).toList == [109,111,100,101]) = false:=lit_no8 (uh HN) [109,111,100,101] rfl _ rfl em
   have ft0:((strOfNums s).toList == [110,111,110,101]) = false:=lit_no8 (uh HS) [110,111,110,101] rfl _ rfl et0
   have ft1:((strOfNums s).toList == [97,100,100]) = true:=lit_yes8 (uh HS) [97,100,100] rfl _ rfl et1
   have HF:Hid (Z = 4):=hide (by rw [← uh HZ]; unfold modeR; simp [er,et0,et1])
   clear ea er em et0 et1
   go_enter Try.func36,Try.ntmps36
   go_wp2_with fail
   all_goals go_ret
   all_goals exact ⟨by rw [uh HF]; rfl,rfl⟩
  by_cases et2:s = [109,117,108]
  ·
   have fr:((strOfNums nm).toList == [114,101,100,117,99,116,105,111,110]) = true:=lit_yes8 (uh HN) [114,101,100,117,99,116,105,111,110] rfl _ rfl er
   have em:¬ nm = [109,111,100,101]:=by rw [er]; decide
   have fa:((strOfNums nm).toList == [97,117,116,111,95,112,97,100]) = false:=lit_no8 (uh HN) [97,117,116,111,95,112,97,100] rfl _ rfl ea
   have fm:((strOfNums nm).toList == [109,111,100,101]) = false:=lit_no8 (uh HN) [109,111,100,101] rfl _ rfl em
   have ft0:((strOfNums s).toList == [110,111,110,101]) = false:=lit_no8 (uh HS) [110,111,110,101] rfl _ rfl et0
   have ft1:((strOfNums s).toList == [97,100,100]) = false:=lit_no8 (uh HS) [97,100,100] rfl _ rfl et1
   have ft2:((strOfNums s).toList == [109,117,108]) = true:=lit_yes8 (uh HS) [109,117,108] rfl _ rfl et2
   have HF:Hid (Z = 5):=hide (by rw [← uh HZ]; unfold modeR; simp [er,et0,et1,et2])
   clear ea er em et0 et1 et2
   go_enter Try.func36,Try.ntmps36
   go_wp2_with fail
   all_goals go_ret
   all_goals exact ⟨by rw [uh HF]; rfl,rfl⟩
  have fr:((strOfNums nm).toList == [114,101,100,117,99,116,105,111,110]) = true:=lit_yes8 (uh HN) [114,101,100,117,99,116,105,111,110] rfl _ rfl er
  have em:¬ nm = [109,111,100,101]:=by rw [er]; decide
  have fa:((strOfNums nm).toList == [97,117,116,111,95,112,97,100]) = false:=lit_no8 (uh HN) [97,117,116,111,95,112,97,100] rfl _ rfl ea
  have fm:((strOfNums nm).toList == [109,111,100,101]) = false:=lit_no8 (uh HN) [109,111,100,101] rfl _ rfl em
  have ft0:((strOfNums s).toList == [110,111,110,101]) = false:=lit_no8 (uh HS) [110,111,110,101] rfl _ rfl et0
  have ft1:((strOfNums s).toList == [97,100,100]) = false:=lit_no8 (uh HS) [97,100,100] rfl _ rfl et1
  have ft2:((strOfNums s).toList == [109,117,108]) = false:=lit_no8 (uh HS) [109,117,108] rfl _ rfl et2
  have HF:Hid (Z = -1):=hide (by rw [← uh HZ]; unfold modeR; simp [er,et0,et1,et2])
  clear ea er em et0 et1 et2
  go_enter Try.func36,Try.ntmps36
  go_wp2_with fail
  all_goals go_ret
  all_goals exact ⟨by rw [uh HF]; rfl,rfl⟩
 by_cases em:nm = [109,111,100,101]
 ·
  by_cases o53:op = 53
  ·
   by_cases et0:s = [99,111,110,115,116,97,110,116]
   ·
    have g53:(op == 53) = true:=by simp [o53]
    have g63:(op == 63) = false:=by simp [o53]
    have fa:((strOfNums nm).toList == [97,117,116,111,95,112,97,100]) = false:=lit_no8 (uh HN) [97,117,116,111,95,112,97,100] rfl _ rfl ea
    have fr:((strOfNums nm).toList == [114,101,100,117,99,116,105,111,110]) = false:=lit_no8 (uh HN) [114,101,100,117,99,116,105,111,110] rfl _ rfl er
    have fm:((strOfNums nm).toList == [109,111,100,101]) = true:=lit_yes8 (uh HN) [109,111,100,101] rfl _ rfl em
    have ft0:((strOfNums s).toList == [99,111,110,115,116,97,110,116]) = true:=lit_yes8 (uh HS) [99,111,110,115,116,97,110,116] rfl _ rfl et0
    have HF:Hid (Z = 1):=hide (by rw [← uh HZ]; unfold modeR; simp [em,o53,et0])
    clear ea er em o53 et0
    go_enter Try.func36,Try.ntmps36
    go_wp2_with fail
    all_goals go_ret
    all_goals exact ⟨by rw [uh HF]; rfl,rfl⟩
   by_cases et1:s = [114,101,102,108,101,99,116]
   ·
    have g53:(op == 53) = true:=by simp [o53]
    have g63:(op == 63) = false:=by simp [o53]
    have fa:((strOfNums nm).toList == [97,117,116,111,95,112,97,100]) = false:=lit_no8 (uh HN) [97,117,116,111,95,112,97,100] rfl _ rfl ea
    have fr:((strOfNums nm).toList == [114,101,100,117,99,116,105,111,110]) = false:=lit_no8 (uh HN) [114,101,100,117,99,116,105,111,110] rfl _ rfl er
    have fm:((strOfNums nm).toList == [109,111,100,101]) = true:=lit_yes8 (uh HN) [109,111,100,101] rfl _ rfl em
    have ft0:((strOfNums s).toList == [99,111,110,115,116,97,110,116]) = false:=lit_no8 (uh HS) [99,111,110,115,116,97,110,116] rfl _ rfl et0
    have ft1:((strOfNums s).toList == [114,101,102,108,101,99,116]) = true:=lit_yes8 (uh HS) [114,101,102,108,101,99,116] rfl _ rfl et1
    have HF:Hid (Z = 2):=hide (by rw [← uh HZ]; unfold modeR; simp [em,o53,et0,et1])
    clear ea er em o53 et0 et1
    go_enter Try.func36,Try.ntmps36
    go_wp2_with fail
    all_goals go_ret
    all_goals exact ⟨by rw [uh HF]; rfl,rfl⟩
   by_cases et2:s = [101,100,103,101]
   ·
    have g53:(op == 53) = true:=by simp [o53]
    have g63:(op == 63) = false:=by simp [o53]
    have fa:((strOfNums nm).toList == [97,117,116,111,95,112,97,100]) = false:=lit_no8 (uh HN) [97,117,116,111,95,112,97,100] rfl _ rfl ea
    have fr:((strOfNums nm).toList == [114,101,100,117,99,116,105,111,110]) = false:=lit_no8 (uh HN) [114,101,100,117,99,116,105,111,110] rfl _ rfl er
    have fm:((strOfNums nm).toList == [109,111,100,101]) = true:=lit_yes8 (uh HN) [109,111,100,101] rfl _ rfl em
    have ft0:((strOfNums s).toList == [99,111,110,115,116,97,110,116]) = false:=lit_no8 (uh HS) [99,111,110,115,116,97,110,116] rfl _ rfl et0
    have ft1:((strOfNums s).toList == [114,101,102,108,101,99,116]) = false:=lit_no8 (uh HS) [114,101,102,108,101,99,116] rfl _ rfl et1
    have ft2:((strOfNums s).toList == [101,100,103,101]) = true:=lit_yes8 (uh HS) [101,100,103,101] rfl _ rfl et2
    have HF:Hid (Z = 3):=hide (by rw [← uh HZ]; unfold modeR; simp [em,o53,et0,et1,et2])
    clear ea er em o53 et0 et1 et2
    go_enter Try.func36,Try.ntmps36
    go_wp2_with fail
    all_goals go_ret
    all_goals exact ⟨by rw [uh HF]; rfl,rfl⟩
   have g53:(op == 53) = true:=by simp [o53]
   have g63:(op == 63) = false:=by simp [o53]
   have fa:((strOfNums nm).toList == [97,117,116,111,95,112,97,100]) = false:=lit_no8 (uh HN) [97,117,116,111,95,112,97,100] rfl _ rfl ea
   have fr:((strOfNums nm).toList == [114,101,100,117,99,116,105,111,110]) = false:=lit_no8 (uh HN) [114,101,100,117,99,116,105,111,110] rfl _ rfl er
   have fm:((strOfNums nm).toList == [109,111,100,101]) = true:=lit_yes8 (uh HN) [109,111,100,101] rfl _ rfl em
   have ft0:((strOfNums s).toList == [99,111,110,115,116,97,110,116]) = false:=lit_no8 (uh HS) [99,111,110,115,116,97,110,116] rfl _ rfl et0
   have ft1:((strOfNums s).toList == [114,101,102,108,101,99,116]) = false:=lit_no8 (uh HS) [114,101,102,108,101,99,116] rfl _ rfl et1
   have ft2:((strOfNums s).toList == [101,100,103,101]) = false:=lit_no8 (uh HS) [101,100,103,101] rfl _ rfl et2
   have HF:Hid (Z = -1):=hide (by rw [← uh HZ]; unfold modeR; simp [em,o53,et0,et1,et2])
   clear ea er em o53 et0 et1 et2
   go_enter Try.func36,Try.ntmps36
   go_wp2_with fail
   all_goals go_ret
   all_goals exact ⟨by rw [uh HF]; rfl,rfl⟩
  by_cases o63:op = 63
  ·
   by_cases et0:s = [68,67,82]
   ·
    have g53:(op == 53) = false:=by simp [o53]
    have g63:(op == 63) = true:=by simp [o63]
    have fa:((strOfNums nm).toList == [97,117,116,111,95,112,97,100]) = false:=lit_no8 (uh HN) [97,117,116,111,95,112,97,100] rfl _ rfl ea
    have fr:((strOfNums nm).toList == [114,101,100,117,99,116,105,111,110]) = false:=lit_no8 (uh HN) [114,101,100,117,99,116,105,111,110] rfl _ rfl er
    have fm:((strOfNums nm).toList == [109,111,100,101]) = true:=lit_yes8 (uh HN) [109,111,100,101] rfl _ rfl em
    have ft0:((strOfNums s).toList == [68,67,82]) = true:=lit_yes8 (uh HS) [68,67,82] rfl _ rfl et0
    have HF:Hid (Z = 6):=hide (by rw [← uh HZ]; unfold modeR; simp [em,o63,et0])
    clear ea er em o53 o63 et0
    go_enter Try.func36,Try.ntmps36
    go_wp2_with fail
    all_goals go_ret
    all_goals exact ⟨by rw [uh HF]; rfl,rfl⟩
   by_cases et1:s = [67,82,68]
   ·
    have g53:(op == 53) = false:=by simp [o53]
    have g63:(op == 63) = true:=by simp [o63]
    have fa:((strOfNums nm).toList == [97,117,116,111,95,112,97,100]) = false:=lit_no8 (uh HN) [97,117,116,111,95,112,97,100] rfl _ rfl ea
    have fr:((strOfNums nm).toList == [114,101,100,117,99,116,105,111,110]) = false:=lit_no8 (uh HN) [114,101,100,117,99,116,105,111,110] rfl _ rfl er
    have fm:((strOfNums nm).toList == [109,111,100,101]) = true:=lit_yes8 (uh HN) [109,111,100,101] rfl _ rfl em
    have ft0:((strOfNums s).toList == [68,67,82]) = false:=lit_no8 (uh HS) [68,67,82] rfl _ rfl et0
    have ft1:((strOfNums s).toList == [67,82,68]) = true:=lit_yes8 (uh HS) [67,82,68] rfl _ rfl et1
    have HF:Hid (Z = 7):=hide (by rw [← uh HZ]; unfold modeR; simp [em,o63,et0,et1])
    clear ea er em o53 o63 et0 et1
    go_enter Try.func36,Try.ntmps36
    go_wp2_with fail
    all_goals go_ret
    all_goals exact ⟨by rw [uh HF]; rfl,rfl⟩
   have g53:(op == 53) = false:=by simp [o53]
   have g63:(op == 63) = true:=by simp [o63]
   have fa:((strOfNums nm).toList == [97,117,116,111,95,112,97,100]) = false:=lit_no8 (uh HN) [97,117,116,111,95,112,97,100] rfl _ rfl ea
   have fr:((strOfNums nm).toList == [114,101,100,117,99,116,105,111,110]) = false:=lit_no8 (uh HN) [114,101,100,117,99,116,105,111,110] rfl _ rfl er
   have fm:((strOfNums nm).toList == [109,111,100,101]) = true:=lit_yes8 (uh HN) [109,111,100,101] rfl _ rfl em
   have ft0:((strOfNums s).toList == [68,67,82]) = false:=lit_no8 (uh HS) [68,67,82] rfl _ rfl et0
   have ft1:((strOfNums s).toList == [67,82,68]) = false:=lit_no8 (uh HS) [67,82,68] rfl _ rfl et1
   have HF:Hid (Z = -1):=hide (by rw [← uh HZ]; unfold modeR; simp [em,o63,et0,et1])
   clear ea er em o53 o63 et0 et1
   go_enter Try.func36,Try.ntmps36
   go_wp2_with fail
   all_goals go_ret
   all_goals exact ⟨by rw [uh HF]; rfl,rfl⟩
  have g53:(op == 53) = false:=by simp [o53]
  have g63:(op == 63) = false:=by simp [o63]
  have fa:((strOfNums nm).toList == [97,117,116,111,95,112,97,100]) = false:=lit_no8 (uh HN) [97,117,116,111,95,112,97,100] rfl _ rfl ea
  have fr:((strOfNums nm).toList == [114,101,100,117,99,116,105,111,110]) = false:=lit_no8 (uh HN) [114,101,100,117,99,116,105,111,110] rfl _ rfl er
  have fm:((strOfNums nm).toList == [109,111,100,101]) = true:=lit_yes8 (uh HN) [109,111,100,101] rfl _ rfl em
  have HF:Hid (Z = -1):=hide (by rw [← uh HZ]; unfold modeR; simp [em,o53,o63])
  clear ea er em o53 o63
  go_enter Try.func36,Try.ntmps36
  go_wp2_with fail
  all_goals go_ret
  all_goals exact ⟨by rw [uh HF]; rfl,rfl⟩
 have fa:((strOfNums nm).toList == [97,117,116,111,95,112,97,100]) = false:=lit_no8 (uh HN) [97,117,116,111,95,112,97,100] rfl _ rfl ea
 have fr:((strOfNums nm).toList == [114,101,100,117,99,116,105,111,110]) = false:=lit_no8 (uh HN) [114,101,100,117,99,116,105,111,110] rfl _ rfl er
 have fm:((strOfNums nm).toList == [109,111,100,101]) = false:=lit_no8 (uh HN) [109,111,100,101] rfl _ rfl em
 have HF:Hid (Z = -1):=hide (by rw [← uh HZ]; unfold modeR; simp [ea,er,em])
 clear ea er em
 go_enter Try.func36,Try.ntmps36
 go_wp2_with fail
 all_goals go_ret
 all_goals exact ⟨by rw [uh HF]; rfl,rfl⟩
theorem rmay8_0 (op:Int) (nm:Str) (mu:Bool) (a:AtA) (B:Nat) (w:World) (hn:isB nm) (h:AtIn B w a) (ht:okT8 a.T) :
  Calls Try.prog 21 #[.int .i64 op,.agg #[strV nm,strV (sortS 0),.bool mu],.agg (atCells a).toArray] w fun e w' => e = .returned (.bool (mayR op nm 0 a.d)) ∧ Below w.heap.size w w':=by
 obtain ⟨h1,h2,h3,h4,h5,h6,h7,h8,h9⟩:=h
 obtain ⟨m1,m2,m3,m4⟩:=ht
 have HS:=hide h8
 have H5:=hide h5
 have HN:=hide hn
 have nl:=h8.ls.len
 have nf:=h7.1.ls.len
 have n2:=h6.1.2.2.1.ls.len
 have n3:=h6.1.2.2.2.1.ls.len
 have n4:=h6.1.2.2.2.2.len
 clear h1 h2 h3 h4 h5 h6 h7 h9 h8 hn m1
 obtain ⟨nm2,kd,f,i,s,⟨t0,t1,t2,t3,t4⟩,A,fl,qf,cf,is,qi,ci⟩:=a
 have e:mayR op nm 0 (AtA.d ⟨nm2,kd,f,i,s,(t0,t1,t2,t3,t4),A,fl,qf,cf,is,qi,ci⟩) = (true):=rfl
 rw [e]
 clear e
 simp only at nl nf n2 n3 n4 m2 m3 m4
 obtain ⟨so,hso⟩:∃ so,sortS 0 = so:=⟨_,rfl⟩
 rw [hso]
 have HO:isB so:=by rw [← hso]; exact isB_of rfl
 have f0:((strOfNums so).toList == [102,108,97,103]) = false:=lit_no8 HO [102,108,97,103] rfl _ rfl (by rw [← hso]; decide)
 have f1:((strOfNums so).toList == [122,101,114,111]) = false:=lit_no8 HO [122,101,114,111] rfl _ rfl (by rw [← hso]; decide)
 have f2:((strOfNums so).toList == [111,110,101]) = false:=lit_no8 HO [111,110,101] rfl _ rfl (by rw [← hso]; decide)
 have f3:((strOfNums so).toList == [97,120,105,115]) = false:=lit_no8 HO [97,120,105,115] rfl _ rfl (by rw [← hso]; decide)
 have f4:((strOfNums so).toList == [115,105,122,101]) = false:=lit_no8 HO [115,105,122,101] rfl _ rfl (by rw [← hso]; decide)
 have f5:((strOfNums so).toList == [116,121,112,101]) = false:=lit_no8 HO [116,121,112,101] rfl _ rfl (by rw [← hso]; decide)
 have f6:((strOfNums so).toList == [116,101,120,116]) = false:=lit_no8 HO [116,101,120,116] rfl _ rfl (by rw [← hso]; decide)
 have f7:((strOfNums so).toList == [115,105,110,103,108,101]) = false:=lit_no8 HO [115,105,110,103,108,101] rfl _ rfl (by rw [← hso]; decide)
 have f8:((strOfNums so).toList == [102,108,111,97,116,115]) = false:=lit_no8 HO [102,108,111,97,116,115] rfl _ rfl (by rw [← hso]; decide)
 have f9:((strOfNums so).toList == [105,110,116,115]) = false:=lit_no8 HO [105,110,116,115] rfl _ rfl (by rw [← hso]; decide)
 have f10:((strOfNums so).toList == [112,108,97,99,101,115]) = false:=lit_no8 HO [112,108,97,99,101,115] rfl _ rfl (by rw [← hso]; decide)
 have f11:((strOfNums so).toList == [97,120,101,115]) = false:=lit_no8 HO [97,120,101,115] rfl _ rfl (by rw [← hso]; decide)
 have f12:((strOfNums so).toList == [115,105,122,101,115]) = false:=lit_no8 HO [115,105,122,101,115] rfl _ rfl (by rw [← hso]; decide)
 have f13:((strOfNums so).toList == [112,97,100,115]) = false:=lit_no8 HO [112,97,100,115] rfl _ rfl (by rw [← hso]; decide)
 clear HO hso
 unfold atCells tenCells strV
 simp only [List.cons_append,List.nil_append]
 clear m2 m3 m4
 go_enter Try.func21,Try.ntmps21
 go_wp2_with fail
 go_ret
 exact ⟨rfl,bl_tr (al1p _ _) (al1p _ _)⟩
theorem rmay8_1 (op:Int) (nm:Str) (mu:Bool) (a:AtA) (B:Nat) (w:World) (hn:isB nm) (h:AtIn B w a) (ht:okT8 a.T) :
  Calls Try.prog 21 #[.int .i64 op,.agg #[strV nm,strV (sortS 1),.bool mu],.agg (atCells a).toArray] w fun e w' => e = .returned (.bool (mayR op nm 1 a.d)) ∧ Below w.heap.size w w':=by
 obtain ⟨h1,h2,h3,h4,h5,h6,h7,h8,h9⟩:=h
 obtain ⟨m1,m2,m3,m4⟩:=ht
 have HS:=hide h8
 have H5:=hide h5
 have HN:=hide hn
 have nl:=h8.ls.len
 have nf:=h7.1.ls.len
 have n2:=h6.1.2.2.1.ls.len
 have n3:=h6.1.2.2.2.1.ls.len
 have n4:=h6.1.2.2.2.2.len
 clear h1 h2 h3 h4 h5 h6 h7 h9 h8 hn m1
 obtain ⟨nm2,kd,f,i,s,⟨t0,t1,t2,t3,t4⟩,A,fl,qf,cf,is,qi,ci⟩:=a
 have e:mayR op nm 1 (AtA.d ⟨nm2,kd,f,i,s,(t0,t1,t2,t3,t4),A,fl,qf,cf,is,qi,ci⟩) = (decide (i = 0) || decide (i = 1)):=rfl
 rw [e]
 clear e
 simp only at nl nf n2 n3 n4 m2 m3 m4
 obtain ⟨so,hso⟩:∃ so,sortS 1 = so:=⟨_,rfl⟩
 rw [hso]
 have HO:isB so:=by rw [← hso]; exact isB_of rfl
 have f0:((strOfNums so).toList == [102,108,97,103]) = true:=lit_yes8 HO [102,108,97,103] rfl _ rfl (by rw [← hso]; rfl)
 clear HO hso
 unfold atCells tenCells strV
 simp only [List.cons_append,List.nil_append]
 clear m2 m3 m4
 by_cases h0:i = 0
 ·subst h0
  have u0:((0:Int) == 0) = true:=rfl
  go_enter Try.func21,Try.ntmps21
  go_wp2_with fail
  go_ret
  exact ⟨rfl,bl_tr (al1p _ _) (al1p _ _)⟩
 ·have u0:(i == 0) = false:=by simp [h0]
  by_cases h1:i = 1
  ·subst h1
   go_enter Try.func21,Try.ntmps21
   go_wp2_with fail
   go_ret
   exact ⟨rfl,bl_tr (al1p _ _) (al1p _ _)⟩
  ·have u1:(i == 1) = false:=by simp [h1]
   have er:(decide (i = 0) || decide (i = 1)) = false:=by simp [h0,h1]
   rw [er]
   clear er h0 h1
   go_enter Try.func21,Try.ntmps21
   go_wp2_with fail
   go_ret
   exact ⟨rfl,bl_tr (al1p _ _) (al1p _ _)⟩
theorem rmay8_2 (op:Int) (nm:Str) (mu:Bool) (a:AtA) (B:Nat) (w:World) (hn:isB nm) (h:AtIn B w a) (ht:okT8 a.T) :
  Calls Try.prog 21 #[.int .i64 op,.agg #[strV nm,strV (sortS 2),.bool mu],.agg (atCells a).toArray] w fun e w' => e = .returned (.bool (mayR op nm 2 a.d)) ∧ Below w.heap.size w w':=by
 obtain ⟨h1,h2,h3,h4,h5,h6,h7,h8,h9⟩:=h
 obtain ⟨m1,m2,m3,m4⟩:=ht
 have HS:=hide h8
 have H5:=hide h5
 have HN:=hide hn
 have nl:=h8.ls.len
 have nf:=h7.1.ls.len
 have n2:=h6.1.2.2.1.ls.len
 have n3:=h6.1.2.2.2.1.ls.len
 have n4:=h6.1.2.2.2.2.len
 clear h1 h2 h3 h4 h5 h6 h7 h9 h8 hn m1
 obtain ⟨nm2,kd,f,i,s,⟨t0,t1,t2,t3,t4⟩,A,fl,qf,cf,is,qi,ci⟩:=a
 have e:mayR op nm 2 (AtA.d ⟨nm2,kd,f,i,s,(t0,t1,t2,t3,t4),A,fl,qf,cf,is,qi,ci⟩) = (decide (i = 0)):=rfl
 rw [e]
 clear e
 simp only at nl nf n2 n3 n4 m2 m3 m4
 obtain ⟨so,hso⟩:∃ so,sortS 2 = so:=⟨_,rfl⟩
 rw [hso]
 have HO:isB so:=by rw [← hso]; exact isB_of rfl
 have f0:((strOfNums so).toList == [102,108,97,103]) = false:=lit_no8 HO [102,108,97,103] rfl _ rfl (by rw [← hso]; decide)
 have f1:((strOfNums so).toList == [122,101,114,111]) = true:=lit_yes8 HO [122,101,114,111] rfl _ rfl (by rw [← hso]; rfl)
 clear HO hso
 unfold atCells tenCells strV
 simp only [List.cons_append,List.nil_append]
 clear m2 m3 m4
 by_cases h0:i = 0
 ·subst h0
  go_enter Try.func21,Try.ntmps21
  go_wp2_with fail
  go_ret
  exact ⟨rfl,bl_tr (al1p _ _) (al1p _ _)⟩
 ·have u0:(i == 0) = false:=by simp [h0]
  rw [decide_eq_false h0]
  clear h0
  go_enter Try.func21,Try.ntmps21
  go_wp2_with fail
  go_ret
  exact ⟨rfl,bl_tr (al1p _ _) (al1p _ _)⟩
theorem rmay8_3 (op:Int) (nm:Str) (mu:Bool) (a:AtA) (B:Nat) (w:World) (hn:isB nm) (h:AtIn B w a) (ht:okT8 a.T) :
  Calls Try.prog 21 #[.int .i64 op,.agg #[strV nm,strV (sortS 3),.bool mu],.agg (atCells a).toArray] w fun e w' => e = .returned (.bool (mayR op nm 3 a.d)) ∧ Below w.heap.size w w':=by
 obtain ⟨h1,h2,h3,h4,h5,h6,h7,h8,h9⟩:=h
 obtain ⟨m1,m2,m3,m4⟩:=ht
 have HS:=hide h8
 have H5:=hide h5
 have HN:=hide hn
 have nl:=h8.ls.len
 have nf:=h7.1.ls.len
 have n2:=h6.1.2.2.1.ls.len
 have n3:=h6.1.2.2.2.1.ls.len
 have n4:=h6.1.2.2.2.2.len
 clear h1 h2 h3 h4 h5 h6 h7 h9 h8 hn m1
 obtain ⟨nm2,kd,f,i,s,⟨t0,t1,t2,t3,t4⟩,A,fl,qf,cf,is,qi,ci⟩:=a
 have e:mayR op nm 3 (AtA.d ⟨nm2,kd,f,i,s,(t0,t1,t2,t3,t4),A,fl,qf,cf,is,qi,ci⟩) = (decide (i = 1)):=rfl
 rw [e]
 clear e
 simp only at nl nf n2 n3 n4 m2 m3 m4
 obtain ⟨so,hso⟩:∃ so,sortS 3 = so:=⟨_,rfl⟩
 rw [hso]
 have HO:isB so:=by rw [← hso]; exact isB_of rfl
 have f0:((strOfNums so).toList == [102,108,97,103]) = false:=lit_no8 HO [102,108,97,103] rfl _ rfl (by rw [← hso]; decide)
 have f1:((strOfNums so).toList == [122,101,114,111]) = false:=lit_no8 HO [122,101,114,111] rfl _ rfl (by rw [← hso]; decide)
 have f2:((strOfNums so).toList == [111,110,101]) = true:=lit_yes8 HO [111,110,101] rfl _ rfl (by rw [← hso]; rfl)
 clear HO hso
 unfold atCells tenCells strV
 simp only [List.cons_append,List.nil_append]
 clear m2 m3 m4
 by_cases h0:i = 1
 ·subst h0
  go_enter Try.func21,Try.ntmps21
  go_wp2_with fail
  go_ret
  exact ⟨rfl,bl_tr (al1p _ _) (al1p _ _)⟩
 ·have u0:(i == 1) = false:=by simp [h0]
  rw [decide_eq_false h0]
  clear h0
  go_enter Try.func21,Try.ntmps21
  go_wp2_with fail
  go_ret
  exact ⟨rfl,bl_tr (al1p _ _) (al1p _ _)⟩
theorem rmay8_4 (op:Int) (nm:Str) (mu:Bool) (a:AtA) (B:Nat) (w:World) (hn:isB nm) (h:AtIn B w a) (ht:okT8 a.T) :
  Calls Try.prog 21 #[.int .i64 op,.agg #[strV nm,strV (sortS 4),.bool mu],.agg (atCells a).toArray] w fun e w' => e = .returned (.bool (mayR op nm 4 a.d)) ∧ Below w.heap.size w w':=by
 obtain ⟨h1,h2,h3,h4,h5,h6,h7,h8,h9⟩:=h
 obtain ⟨m1,m2,m3,m4⟩:=ht
 have HS:=hide h8
 have H5:=hide h5
 have HN:=hide hn
 have nl:=h8.ls.len
 have nf:=h7.1.ls.len
 have n2:=h6.1.2.2.1.ls.len
 have n3:=h6.1.2.2.2.1.ls.len
 have n4:=h6.1.2.2.2.2.len
 clear h1 h2 h3 h4 h5 h6 h7 h9 h8 hn m1
 obtain ⟨nm2,kd,f,i,s,⟨t0,t1,t2,t3,t4⟩,A,fl,qf,cf,is,qi,ci⟩:=a
 have e:mayR op nm 4 (AtA.d ⟨nm2,kd,f,i,s,(t0,t1,t2,t3,t4),A,fl,qf,cf,is,qi,ci⟩) = (decide (-8 ≤ i) && decide (i ≤ 8)):=rfl
 rw [e]
 clear e
 simp only at nl nf n2 n3 n4 m2 m3 m4
 obtain ⟨so,hso⟩:∃ so,sortS 4 = so:=⟨_,rfl⟩
 rw [hso]
 have HO:isB so:=by rw [← hso]; exact isB_of rfl
 have f0:((strOfNums so).toList == [102,108,97,103]) = false:=lit_no8 HO [102,108,97,103] rfl _ rfl (by rw [← hso]; decide)
 have f1:((strOfNums so).toList == [122,101,114,111]) = false:=lit_no8 HO [122,101,114,111] rfl _ rfl (by rw [← hso]; decide)
 have f2:((strOfNums so).toList == [111,110,101]) = false:=lit_no8 HO [111,110,101] rfl _ rfl (by rw [← hso]; decide)
 have f3:((strOfNums so).toList == [97,120,105,115]) = true:=lit_yes8 HO [97,120,105,115] rfl _ rfl (by rw [← hso]; rfl)
 clear HO hso
 unfold atCells tenCells strV
 simp only [List.cons_append,List.nil_append]
 clear m2 m3 m4
 by_cases h0:-8 ≤ i
 ·have u0:decide ((-8:Int) ≤ i) = true:=by simp [h0]
  by_cases h1:i ≤ 8
  ·have u1:decide (i ≤ (8:Int)) = true:=by simp [h1]
   rw [u0,u1]
   go_enter Try.func21,Try.ntmps21
   go_wp2_with fail
   go_ret
   exact ⟨rfl,bl_tr (al1p _ _) (al1p _ _)⟩
  ·have u1:decide (i ≤ (8:Int)) = false:=by simp [h1]
   rw [u0,u1]
   go_enter Try.func21,Try.ntmps21
   go_wp2_with fail
   go_ret
   exact ⟨rfl,bl_tr (al1p _ _) (al1p _ _)⟩
 ·have u0:decide ((-8:Int) ≤ i) = false:=by simp [h0]
  rw [u0]
  go_enter Try.func21,Try.ntmps21
  go_wp2_with fail
  go_ret
  exact ⟨rfl,bl_tr (al1p _ _) (al1p _ _)⟩
theorem rmay8_5 (op:Int) (nm:Str) (mu:Bool) (a:AtA) (B:Nat) (w:World) (hn:isB nm) (h:AtIn B w a) (ht:okT8 a.T) :
  Calls Try.prog 21 #[.int .i64 op,.agg #[strV nm,strV (sortS 5),.bool mu],.agg (atCells a).toArray] w fun e w' => e = .returned (.bool (mayR op nm 5 a.d)) ∧ Below w.heap.size w w':=by
 obtain ⟨h1,h2,h3,h4,h5,h6,h7,h8,h9⟩:=h
 obtain ⟨m1,m2,m3,m4⟩:=ht
 have HS:=hide h8
 have H5:=hide h5
 have HN:=hide hn
 have nl:=h8.ls.len
 have nf:=h7.1.ls.len
 have n2:=h6.1.2.2.1.ls.len
 have n3:=h6.1.2.2.2.1.ls.len
 have n4:=h6.1.2.2.2.2.len
 clear h1 h2 h3 h4 h5 h6 h7 h9 h8 hn m1
 obtain ⟨nm2,kd,f,i,s,⟨t0,t1,t2,t3,t4⟩,A,fl,qf,cf,is,qi,ci⟩:=a
 have e:mayR op nm 5 (AtA.d ⟨nm2,kd,f,i,s,(t0,t1,t2,t3,t4),A,fl,qf,cf,is,qi,ci⟩) = (true):=rfl
 rw [e]
 clear e
 simp only at nl nf n2 n3 n4 m2 m3 m4
 obtain ⟨so,hso⟩:∃ so,sortS 5 = so:=⟨_,rfl⟩
 rw [hso]
 have HO:isB so:=by rw [← hso]; exact isB_of rfl
 have f0:((strOfNums so).toList == [102,108,97,103]) = false:=lit_no8 HO [102,108,97,103] rfl _ rfl (by rw [← hso]; decide)
 have f1:((strOfNums so).toList == [122,101,114,111]) = false:=lit_no8 HO [122,101,114,111] rfl _ rfl (by rw [← hso]; decide)
 have f2:((strOfNums so).toList == [111,110,101]) = false:=lit_no8 HO [111,110,101] rfl _ rfl (by rw [← hso]; decide)
 have f3:((strOfNums so).toList == [97,120,105,115]) = false:=lit_no8 HO [97,120,105,115] rfl _ rfl (by rw [← hso]; decide)
 have f4:((strOfNums so).toList == [115,105,122,101]) = false:=lit_no8 HO [115,105,122,101] rfl _ rfl (by rw [← hso]; decide)
 have f5:((strOfNums so).toList == [116,121,112,101]) = false:=lit_no8 HO [116,121,112,101] rfl _ rfl (by rw [← hso]; decide)
 have f6:((strOfNums so).toList == [116,101,120,116]) = false:=lit_no8 HO [116,101,120,116] rfl _ rfl (by rw [← hso]; decide)
 have f7:((strOfNums so).toList == [115,105,110,103,108,101]) = false:=lit_no8 HO [115,105,110,103,108,101] rfl _ rfl (by rw [← hso]; decide)
 have f8:((strOfNums so).toList == [102,108,111,97,116,115]) = false:=lit_no8 HO [102,108,111,97,116,115] rfl _ rfl (by rw [← hso]; decide)
 have f9:((strOfNums so).toList == [105,110,116,115]) = false:=lit_no8 HO [105,110,116,115] rfl _ rfl (by rw [← hso]; decide)
 have f10:((strOfNums so).toList == [112,108,97,99,101,115]) = false:=lit_no8 HO [112,108,97,99,101,115] rfl _ rfl (by rw [← hso]; decide)
 have f11:((strOfNums so).toList == [97,120,101,115]) = false:=lit_no8 HO [97,120,101,115] rfl _ rfl (by rw [← hso]; decide)
 have f12:((strOfNums so).toList == [115,105,122,101,115]) = false:=lit_no8 HO [115,105,122,101,115] rfl _ rfl (by rw [← hso]; decide)
 have f13:((strOfNums so).toList == [112,97,100,115]) = false:=lit_no8 HO [112,97,100,115] rfl _ rfl (by rw [← hso]; decide)
 clear HO hso
 unfold atCells tenCells strV
 simp only [List.cons_append,List.nil_append]
 clear m2 m3 m4
 go_enter Try.func21,Try.ntmps21
 go_wp2_with fail
 go_ret
 exact ⟨rfl,bl_tr (al1p _ _) (al1p _ _)⟩
theorem rmay8_6 (op:Int) (nm:Str) (mu:Bool) (a:AtA) (B:Nat) (w:World) (hn:isB nm) (h:AtIn B w a) (ht:okT8 a.T) :
  Calls Try.prog 21 #[.int .i64 op,.agg #[strV nm,strV (sortS 6),.bool mu],.agg (atCells a).toArray] w fun e w' => e = .returned (.bool (mayR op nm 6 a.d)) ∧ Below w.heap.size w w':=by
 obtain ⟨h1,h2,h3,h4,h5,h6,h7,h8,h9⟩:=h
 obtain ⟨m1,m2,m3,m4⟩:=ht
 have HS:=hide h8
 have H5:=hide h5
 have HN:=hide hn
 have nl:=h8.ls.len
 have nf:=h7.1.ls.len
 have n2:=h6.1.2.2.1.ls.len
 have n3:=h6.1.2.2.2.1.ls.len
 have n4:=h6.1.2.2.2.2.len
 clear h1 h2 h3 h4 h5 h6 h7 h9 h8 hn m1
 obtain ⟨nm2,kd,f,i,s,⟨t0,t1,t2,t3,t4⟩,A,fl,qf,cf,is,qi,ci⟩:=a
 have e:mayR op nm 6 (AtA.d ⟨nm2,kd,f,i,s,(t0,t1,t2,t3,t4),A,fl,qf,cf,is,qi,ci⟩) = (decide (1 ≤ i) && decide (i ≤ 4096)):=rfl
 rw [e]
 clear e
 simp only at nl nf n2 n3 n4 m2 m3 m4
 obtain ⟨so,hso⟩:∃ so,sortS 6 = so:=⟨_,rfl⟩
 rw [hso]
 have HO:isB so:=by rw [← hso]; exact isB_of rfl
 have f0:((strOfNums so).toList == [102,108,97,103]) = false:=lit_no8 HO [102,108,97,103] rfl _ rfl (by rw [← hso]; decide)
 have f1:((strOfNums so).toList == [122,101,114,111]) = false:=lit_no8 HO [122,101,114,111] rfl _ rfl (by rw [← hso]; decide)
 have f2:((strOfNums so).toList == [111,110,101]) = false:=lit_no8 HO [111,110,101] rfl _ rfl (by rw [← hso]; decide)
 have f3:((strOfNums so).toList == [97,120,105,115]) = false:=lit_no8 HO [97,120,105,115] rfl _ rfl (by rw [← hso]; decide)
 have f4:((strOfNums so).toList == [115,105,122,101]) = true:=lit_yes8 HO [115,105,122,101] rfl _ rfl (by rw [← hso]; rfl)
 clear HO hso
 unfold atCells tenCells strV
 simp only [List.cons_append,List.nil_append]
 clear m2 m3 m4
 by_cases h0:1 ≤ i
 ·have u0:decide ((1:Int) ≤ i) = true:=by simp [h0]
  by_cases h1:i ≤ 4096
  ·have u1:decide (i ≤ (4096:Int)) = true:=by simp [h1]
   rw [u0,u1]
   go_enter Try.func21,Try.ntmps21
   go_wp2_with fail
   go_ret
   exact ⟨rfl,bl_tr (al1p _ _) (al1p _ _)⟩
  ·have u1:decide (i ≤ (4096:Int)) = false:=by simp [h1]
   rw [u0,u1]
   go_enter Try.func21,Try.ntmps21
   go_wp2_with fail
   go_ret
   exact ⟨rfl,bl_tr (al1p _ _) (al1p _ _)⟩
 ·have u0:decide ((1:Int) ≤ i) = false:=by simp [h0]
  rw [u0]
  go_enter Try.func21,Try.ntmps21
  go_wp2_with fail
  go_ret
  exact ⟨rfl,bl_tr (al1p _ _) (al1p _ _)⟩
theorem rmay8_7 (op:Int) (nm:Str) (mu:Bool) (a:AtA) (B:Nat) (w:World) (hn:isB nm) (h:AtIn B w a) (ht:okT8 a.T) :
  Calls Try.prog 21 #[.int .i64 op,.agg #[strV nm,strV (sortS 7),.bool mu],.agg (atCells a).toArray] w fun e w' => e = .returned (.bool (mayR op nm 7 a.d)) ∧ Below w.heap.size w w':=by
 obtain ⟨h1,h2,h3,h4,h5,h6,h7,h8,h9⟩:=h
 obtain ⟨m1,m2,m3,m4⟩:=ht
 have HS:=hide h8
 have H5:=hide h5
 have HN:=hide hn
 have nl:=h8.ls.len
 have nf:=h7.1.ls.len
 have n2:=h6.1.2.2.1.ls.len
 have n3:=h6.1.2.2.2.1.ls.len
 have n4:=h6.1.2.2.2.2.len
 clear h1 h2 h3 h4 h5 h6 h7 h9 h8 hn m1
 obtain ⟨nm2,kd,f,i,s,⟨t0,t1,t2,t3,t4⟩,A,fl,qf,cf,is,qi,ci⟩:=a
 have e:mayR op nm 7 (AtA.d ⟨nm2,kd,f,i,s,(t0,t1,t2,t3,t4),A,fl,qf,cf,is,qi,ci⟩) = (knownB i):=rfl
 rw [e]
 clear e
 simp only at nl nf n2 n3 n4 m2 m3 m4
 obtain ⟨so,hso⟩:∃ so,sortS 7 = so:=⟨_,rfl⟩
 rw [hso]
 have HO:isB so:=by rw [← hso]; exact isB_of rfl
 have f0:((strOfNums so).toList == [102,108,97,103]) = false:=lit_no8 HO [102,108,97,103] rfl _ rfl (by rw [← hso]; decide)
 have f1:((strOfNums so).toList == [122,101,114,111]) = false:=lit_no8 HO [122,101,114,111] rfl _ rfl (by rw [← hso]; decide)
 have f2:((strOfNums so).toList == [111,110,101]) = false:=lit_no8 HO [111,110,101] rfl _ rfl (by rw [← hso]; decide)
 have f3:((strOfNums so).toList == [97,120,105,115]) = false:=lit_no8 HO [97,120,105,115] rfl _ rfl (by rw [← hso]; decide)
 have f4:((strOfNums so).toList == [115,105,122,101]) = false:=lit_no8 HO [115,105,122,101] rfl _ rfl (by rw [← hso]; decide)
 have f5:((strOfNums so).toList == [116,121,112,101]) = true:=lit_yes8 HO [116,121,112,101] rfl _ rfl (by rw [← hso]; rfl)
 clear HO hso
 unfold atCells tenCells strV
 simp only [List.cons_append,List.nil_append]
 clear m2 m3 m4
 by_cases h1:i = 1
 ·subst h1
  go_enter Try.func21,Try.ntmps21
  go_wp2_with fail
  go_ret
  exact ⟨rfl,bl_tr (al1p _ _) (al1p _ _)⟩
 have u1:(i == 1) = false:=by simp [h1]
 by_cases h7:i = 7
 ·subst h7
  go_enter Try.func21,Try.ntmps21
  go_wp2_with fail
  go_ret
  exact ⟨rfl,bl_tr (al1p _ _) (al1p _ _)⟩
 have u7:(i == 7) = false:=by simp [h7]
 by_cases h9:i = 9
 ·subst h9
  go_enter Try.func21,Try.ntmps21
  go_wp2_with fail
  go_ret
  exact ⟨rfl,bl_tr (al1p _ _) (al1p _ _)⟩
 have u9:(i == 9) = false:=by simp [h9]
 have er:knownB i = false:=by unfold knownB; simp [h1,h7,h9]
 rw [er]
 clear er h1 h7 h9
 go_enter Try.func21,Try.ntmps21
 go_wp2_with fail
 go_ret
 exact ⟨rfl,bl_tr (al1p _ _) (al1p _ _)⟩
theorem rmay8_8 (op:Int) (nm:Str) (mu:Bool) (a:AtA) (B:Nat) (w:World) (hn:isB nm) (h:AtIn B w a) (ht:okT8 a.T) :
  Calls Try.prog 21 #[.int .i64 op,.agg #[strV nm,strV (sortS 8),.bool mu],.agg (atCells a).toArray] w fun e w' => e = .returned (.bool (mayR op nm 8 a.d)) ∧ Below w.heap.size w w':=by
 obtain ⟨h1,h2,h3,h4,h5,h6,h7,h8,h9⟩:=h
 obtain ⟨m1,m2,m3,m4⟩:=ht
 have HS:=hide h8
 have H5:=hide h5
 have HN:=hide hn
 have nl:=h8.ls.len
 have nf:=h7.1.ls.len
 have n2:=h6.1.2.2.1.ls.len
 have n3:=h6.1.2.2.2.1.ls.len
 have n4:=h6.1.2.2.2.2.len
 clear h1 h2 h3 h4 h5 h6 h7 h9 h8 hn m1
 obtain ⟨nm2,kd,f,i,s,⟨t0,t1,t2,t3,t4⟩,A,fl,qf,cf,is,qi,ci⟩:=a
 have e:mayR op nm 8 (AtA.d ⟨nm2,kd,f,i,s,(t0,t1,t2,t3,t4),A,fl,qf,cf,is,qi,ci⟩) = (decide (0 ≤ modeR op nm s)):=rfl
 rw [e]
 clear e
 simp only at nl nf n2 n3 n4 m2 m3 m4
 obtain ⟨so,hso⟩:∃ so,sortS 8 = so:=⟨_,rfl⟩
 rw [hso]
 have HO:isB so:=by rw [← hso]; exact isB_of rfl
 have f0:((strOfNums so).toList == [102,108,97,103]) = false:=lit_no8 HO [102,108,97,103] rfl _ rfl (by rw [← hso]; decide)
 have f1:((strOfNums so).toList == [122,101,114,111]) = false:=lit_no8 HO [122,101,114,111] rfl _ rfl (by rw [← hso]; decide)
 have f2:((strOfNums so).toList == [111,110,101]) = false:=lit_no8 HO [111,110,101] rfl _ rfl (by rw [← hso]; decide)
 have f3:((strOfNums so).toList == [97,120,105,115]) = false:=lit_no8 HO [97,120,105,115] rfl _ rfl (by rw [← hso]; decide)
 have f4:((strOfNums so).toList == [115,105,122,101]) = false:=lit_no8 HO [115,105,122,101] rfl _ rfl (by rw [← hso]; decide)
 have f5:((strOfNums so).toList == [116,121,112,101]) = false:=lit_no8 HO [116,121,112,101] rfl _ rfl (by rw [← hso]; decide)
 have f6:((strOfNums so).toList == [116,101,120,116]) = true:=lit_yes8 HO [116,101,120,116] rfl _ rfl (by rw [← hso]; rfl)
 clear HO hso
 unfold atCells tenCells strV
 simp only [List.cons_append,List.nil_append]
 clear m2 m3 m4
 have CM:=hide (fun v => rmode8_any op nm s v (uh HN) (uh H5))
 unfold strV at CM
 obtain ⟨M,hM⟩:∃ M,modeR op nm s = M:=⟨_,rfl⟩
 rw [hM] at CM ⊢
 clear hM HN H5
 go_enter Try.func21,Try.ntmps21
 go_wp2_with fail
 refine (uh CM _).mono ?_
 rintro e v ⟨rfl,rfl⟩
 clear CM
 by_cases h0:0 ≤ M
 ·have u0:decide ((0:Int) ≤ M) = true:=by simp [h0]
  go_wp2_with fail
  go_ret
  exact ⟨by simp [h0],bl_tr (al1p _ _) (al1p _ _)⟩
 ·have u0:decide ((0:Int) ≤ M) = false:=by simp [h0]
  go_wp2_with fail
  go_ret
  exact ⟨by simp [h0],bl_tr (al1p _ _) (al1p _ _)⟩
theorem rmay8_9 (op:Int) (nm:Str) (mu:Bool) (a:AtA) (B:Nat) (w:World) (hn:isB nm) (h:AtIn B w a) (ht:okT8 a.T) :
  Calls Try.prog 21 #[.int .i64 op,.agg #[strV nm,strV (sortS 9),.bool mu],.agg (atCells a).toArray] w fun e w' => e = .returned (.bool (mayR op nm 9 a.d)) ∧ Below w.heap.size w w':=by
 obtain ⟨h1,h2,h3,h4,h5,h6,h7,h8,h9⟩:=h
 obtain ⟨m1,m2,m3,m4⟩:=ht
 have HS:=hide h8
 have H5:=hide h5
 have HN:=hide hn
 have nl:=h8.ls.len
 have nf:=h7.1.ls.len
 have n2:=h6.1.2.2.1.ls.len
 have n3:=h6.1.2.2.2.1.ls.len
 have n4:=h6.1.2.2.2.2.len
 clear h1 h2 h3 h4 h5 h6 h7 h9 h8 hn m1
 obtain ⟨nm2,kd,f,i,s,⟨t0,t1,t2,t3,t4⟩,A,fl,qf,cf,is,qi,ci⟩:=a
 have e:mayR op nm 9 (AtA.d ⟨nm2,kd,f,i,s,(t0,t1,t2,t3,t4),A,fl,qf,cf,is,qi,ci⟩) = (decide (0 ≤ modeR op nm s)):=rfl
 rw [e]
 clear e
 simp only at nl nf n2 n3 n4 m2 m3 m4
 obtain ⟨so,hso⟩:∃ so,sortS 9 = so:=⟨_,rfl⟩
 rw [hso]
 have HO:isB so:=by rw [← hso]; exact isB_of rfl
 have f0:((strOfNums so).toList == [102,108,97,103]) = false:=lit_no8 HO [102,108,97,103] rfl _ rfl (by rw [← hso]; decide)
 have f1:((strOfNums so).toList == [122,101,114,111]) = false:=lit_no8 HO [122,101,114,111] rfl _ rfl (by rw [← hso]; decide)
 have f2:((strOfNums so).toList == [111,110,101]) = false:=lit_no8 HO [111,110,101] rfl _ rfl (by rw [← hso]; decide)
 have f3:((strOfNums so).toList == [97,120,105,115]) = false:=lit_no8 HO [97,120,105,115] rfl _ rfl (by rw [← hso]; decide)
 have f4:((strOfNums so).toList == [115,105,122,101]) = false:=lit_no8 HO [115,105,122,101] rfl _ rfl (by rw [← hso]; decide)
 have f5:((strOfNums so).toList == [116,121,112,101]) = false:=lit_no8 HO [116,121,112,101] rfl _ rfl (by rw [← hso]; decide)
 have f6:((strOfNums so).toList == [116,101,120,116]) = true:=lit_yes8 HO [116,101,120,116] rfl _ rfl (by rw [← hso]; rfl)
 clear HO hso
 unfold atCells tenCells strV
 simp only [List.cons_append,List.nil_append]
 clear m2 m3 m4
 have CM:=hide (fun v => rmode8_any op nm s v (uh HN) (uh H5))
 unfold strV at CM
 obtain ⟨M,hM⟩:∃ M,modeR op nm s = M:=⟨_,rfl⟩
 rw [hM] at CM ⊢
 clear hM HN H5
 go_enter Try.func21,Try.ntmps21
 go_wp2_with fail
 refine (uh CM _).mono ?_
 rintro e v ⟨rfl,rfl⟩
 clear CM
 by_cases h0:0 ≤ M
 ·have u0:decide ((0:Int) ≤ M) = true:=by simp [h0]
  go_wp2_with fail
  go_ret
  exact ⟨by simp [h0],bl_tr (al1p _ _) (al1p _ _)⟩
 ·have u0:decide ((0:Int) ≤ M) = false:=by simp [h0]
  go_wp2_with fail
  go_ret
  exact ⟨by simp [h0],bl_tr (al1p _ _) (al1p _ _)⟩
theorem rmay8_10 (op:Int) (nm:Str) (mu:Bool) (a:AtA) (B:Nat) (w:World) (hn:isB nm) (h:AtIn B w a) (ht:okT8 a.T) :
  Calls Try.prog 21 #[.int .i64 op,.agg #[strV nm,strV (sortS 10),.bool mu],.agg (atCells a).toArray] w fun e w' => e = .returned (.bool (mayR op nm 10 a.d)) ∧ Below w.heap.size w w':=by
 obtain ⟨h1,h2,h3,h4,h5,h6,h7,h8,h9⟩:=h
 obtain ⟨m1,m2,m3,m4⟩:=ht
 have HS:=hide h8
 have H5:=hide h5
 have HN:=hide hn
 have nl:=h8.ls.len
 have nf:=h7.1.ls.len
 have n2:=h6.1.2.2.1.ls.len
 have n3:=h6.1.2.2.2.1.ls.len
 have n4:=h6.1.2.2.2.2.len
 clear h1 h2 h3 h4 h5 h6 h7 h9 h8 hn m1
 obtain ⟨nm2,kd,f,i,s,⟨t0,t1,t2,t3,t4⟩,A,fl,qf,cf,is,qi,ci⟩:=a
 have e:mayR op nm 10 (AtA.d ⟨nm2,kd,f,i,s,(t0,t1,t2,t3,t4),A,fl,qf,cf,is,qi,ci⟩) = (decide (0 ≤ modeR op nm s)):=rfl
 rw [e]
 clear e
 simp only at nl nf n2 n3 n4 m2 m3 m4
 obtain ⟨so,hso⟩:∃ so,sortS 10 = so:=⟨_,rfl⟩
 rw [hso]
 have HO:isB so:=by rw [← hso]; exact isB_of rfl
 have f0:((strOfNums so).toList == [102,108,97,103]) = false:=lit_no8 HO [102,108,97,103] rfl _ rfl (by rw [← hso]; decide)
 have f1:((strOfNums so).toList == [122,101,114,111]) = false:=lit_no8 HO [122,101,114,111] rfl _ rfl (by rw [← hso]; decide)
 have f2:((strOfNums so).toList == [111,110,101]) = false:=lit_no8 HO [111,110,101] rfl _ rfl (by rw [← hso]; decide)
 have f3:((strOfNums so).toList == [97,120,105,115]) = false:=lit_no8 HO [97,120,105,115] rfl _ rfl (by rw [← hso]; decide)
 have f4:((strOfNums so).toList == [115,105,122,101]) = false:=lit_no8 HO [115,105,122,101] rfl _ rfl (by rw [← hso]; decide)
 have f5:((strOfNums so).toList == [116,121,112,101]) = false:=lit_no8 HO [116,121,112,101] rfl _ rfl (by rw [← hso]; decide)
 have f6:((strOfNums so).toList == [116,101,120,116]) = true:=lit_yes8 HO [116,101,120,116] rfl _ rfl (by rw [← hso]; rfl)
 clear HO hso
 unfold atCells tenCells strV
 simp only [List.cons_append,List.nil_append]
 clear m2 m3 m4
 have CM:=hide (fun v => rmode8_any op nm s v (uh HN) (uh H5))
 unfold strV at CM
 obtain ⟨M,hM⟩:∃ M,modeR op nm s = M:=⟨_,rfl⟩
 rw [hM] at CM ⊢
 clear hM HN H5
 go_enter Try.func21,Try.ntmps21
 go_wp2_with fail
 refine (uh CM _).mono ?_
 rintro e v ⟨rfl,rfl⟩
 clear CM
 by_cases h0:0 ≤ M
 ·have u0:decide ((0:Int) ≤ M) = true:=by simp [h0]
  go_wp2_with fail
  go_ret
  exact ⟨by simp [h0],bl_tr (al1p _ _) (al1p _ _)⟩
 ·have u0:decide ((0:Int) ≤ M) = false:=by simp [h0]
  go_wp2_with fail
  go_ret
  exact ⟨by simp [h0],bl_tr (al1p _ _) (al1p _ _)⟩
theorem rmay8_11 (op:Int) (nm:Str) (mu:Bool) (a:AtA) (B:Nat) (w:World) (hn:isB nm) (h:AtIn B w a) (ht:okT8 a.T) :
  Calls Try.prog 21 #[.int .i64 op,.agg #[strV nm,strV (sortS 11),.bool mu],.agg (atCells a).toArray] w fun e w' => e = .returned (.bool (mayR op nm 11 a.d)) ∧ Below w.heap.size w w':=by
 obtain ⟨h1,h2,h3,h4,h5,h6,h7,h8,h9⟩:=h
 obtain ⟨m1,m2,m3,m4⟩:=ht
 have HS:=hide h8
 have H5:=hide h5
 have HN:=hide hn
 have nl:=h8.ls.len
 have nf:=h7.1.ls.len
 have n2:=h6.1.2.2.1.ls.len
 have n3:=h6.1.2.2.2.1.ls.len
 have n4:=h6.1.2.2.2.2.len
 clear h1 h2 h3 h4 h5 h6 h7 h9 h8 hn m1
 obtain ⟨nm2,kd,f,i,s,⟨t0,t1,t2,t3,t4⟩,A,fl,qf,cf,is,qi,ci⟩:=a
 have e:mayR op nm 11 (AtA.d ⟨nm2,kd,f,i,s,(t0,t1,t2,t3,t4),A,fl,qf,cf,is,qi,ci⟩) = (decide (0 ≤ modeR op nm s)):=rfl
 rw [e]
 clear e
 simp only at nl nf n2 n3 n4 m2 m3 m4
 obtain ⟨so,hso⟩:∃ so,sortS 11 = so:=⟨_,rfl⟩
 rw [hso]
 have HO:isB so:=by rw [← hso]; exact isB_of rfl
 have f0:((strOfNums so).toList == [102,108,97,103]) = false:=lit_no8 HO [102,108,97,103] rfl _ rfl (by rw [← hso]; decide)
 have f1:((strOfNums so).toList == [122,101,114,111]) = false:=lit_no8 HO [122,101,114,111] rfl _ rfl (by rw [← hso]; decide)
 have f2:((strOfNums so).toList == [111,110,101]) = false:=lit_no8 HO [111,110,101] rfl _ rfl (by rw [← hso]; decide)
 have f3:((strOfNums so).toList == [97,120,105,115]) = false:=lit_no8 HO [97,120,105,115] rfl _ rfl (by rw [← hso]; decide)
 have f4:((strOfNums so).toList == [115,105,122,101]) = false:=lit_no8 HO [115,105,122,101] rfl _ rfl (by rw [← hso]; decide)
 have f5:((strOfNums so).toList == [116,121,112,101]) = false:=lit_no8 HO [116,121,112,101] rfl _ rfl (by rw [← hso]; decide)
 have f6:((strOfNums so).toList == [116,101,120,116]) = true:=lit_yes8 HO [116,101,120,116] rfl _ rfl (by rw [← hso]; rfl)
 clear HO hso
 unfold atCells tenCells strV
 simp only [List.cons_append,List.nil_append]
 clear m2 m3 m4
 have CM:=hide (fun v => rmode8_any op nm s v (uh HN) (uh H5))
 unfold strV at CM
 obtain ⟨M,hM⟩:∃ M,modeR op nm s = M:=⟨_,rfl⟩
 rw [hM] at CM ⊢
 clear hM HN H5
 go_enter Try.func21,Try.ntmps21
 go_wp2_with fail
 refine (uh CM _).mono ?_
 rintro e v ⟨rfl,rfl⟩
 clear CM
 by_cases h0:0 ≤ M
 ·have u0:decide ((0:Int) ≤ M) = true:=by simp [h0]
  go_wp2_with fail
  go_ret
  exact ⟨by simp [h0],bl_tr (al1p _ _) (al1p _ _)⟩
 ·have u0:decide ((0:Int) ≤ M) = false:=by simp [h0]
  go_wp2_with fail
  go_ret
  exact ⟨by simp [h0],bl_tr (al1p _ _) (al1p _ _)⟩
theorem rmay8_12 (op:Int) (nm:Str) (mu:Bool) (a:AtA) (B:Nat) (w:World) (hn:isB nm) (h:AtIn B w a) (ht:okT8 a.T) :
  Calls Try.prog 21 #[.int .i64 op,.agg #[strV nm,strV (sortS 12),.bool mu],.agg (atCells a).toArray] w fun e w' => e = .returned (.bool (mayR op nm 12 a.d)) ∧ Below w.heap.size w w':=by
 obtain ⟨h1,h2,h3,h4,h5,h6,h7,h8,h9⟩:=h
 obtain ⟨m1,m2,m3,m4⟩:=ht
 have HS:=hide h8
 have H5:=hide h5
 have HN:=hide hn
 have nl:=h8.ls.len
 have nf:=h7.1.ls.len
 have n2:=h6.1.2.2.1.ls.len
 have n3:=h6.1.2.2.2.1.ls.len
 have n4:=h6.1.2.2.2.2.len
 clear h1 h2 h3 h4 h5 h6 h7 h9 h8 hn m1
 obtain ⟨nm2,kd,f,i,s,⟨t0,t1,t2,t3,t4⟩,A,fl,qf,cf,is,qi,ci⟩:=a
 have e:mayR op nm 12 (AtA.d ⟨nm2,kd,f,i,s,(t0,t1,t2,t3,t4),A,fl,qf,cf,is,qi,ci⟩) = (true):=rfl
 rw [e]
 clear e
 simp only at nl nf n2 n3 n4 m2 m3 m4
 obtain ⟨so,hso⟩:∃ so,sortS 12 = so:=⟨_,rfl⟩
 rw [hso]
 have HO:isB so:=by rw [← hso]; exact isB_of rfl
 have f0:((strOfNums so).toList == [102,108,97,103]) = false:=lit_no8 HO [102,108,97,103] rfl _ rfl (by rw [← hso]; decide)
 have f1:((strOfNums so).toList == [122,101,114,111]) = false:=lit_no8 HO [122,101,114,111] rfl _ rfl (by rw [← hso]; decide)
 have f2:((strOfNums so).toList == [111,110,101]) = false:=lit_no8 HO [111,110,101] rfl _ rfl (by rw [← hso]; decide)
 have f3:((strOfNums so).toList == [97,120,105,115]) = false:=lit_no8 HO [97,120,105,115] rfl _ rfl (by rw [← hso]; decide)
 have f4:((strOfNums so).toList == [115,105,122,101]) = false:=lit_no8 HO [115,105,122,101] rfl _ rfl (by rw [← hso]; decide)
 have f5:((strOfNums so).toList == [116,121,112,101]) = false:=lit_no8 HO [116,121,112,101] rfl _ rfl (by rw [← hso]; decide)
 have f6:((strOfNums so).toList == [116,101,120,116]) = false:=lit_no8 HO [116,101,120,116] rfl _ rfl (by rw [← hso]; decide)
 have f7:((strOfNums so).toList == [115,105,110,103,108,101]) = false:=lit_no8 HO [115,105,110,103,108,101] rfl _ rfl (by rw [← hso]; decide)
 have f8:((strOfNums so).toList == [102,108,111,97,116,115]) = false:=lit_no8 HO [102,108,111,97,116,115] rfl _ rfl (by rw [← hso]; decide)
 have f9:((strOfNums so).toList == [105,110,116,115]) = false:=lit_no8 HO [105,110,116,115] rfl _ rfl (by rw [← hso]; decide)
 have f10:((strOfNums so).toList == [112,108,97,99,101,115]) = false:=lit_no8 HO [112,108,97,99,101,115] rfl _ rfl (by rw [← hso]; decide)
 have f11:((strOfNums so).toList == [97,120,101,115]) = false:=lit_no8 HO [97,120,101,115] rfl _ rfl (by rw [← hso]; decide)
 have f12:((strOfNums so).toList == [115,105,122,101,115]) = false:=lit_no8 HO [115,105,122,101,115] rfl _ rfl (by rw [← hso]; decide)
 have f13:((strOfNums so).toList == [112,97,100,115]) = false:=lit_no8 HO [112,97,100,115] rfl _ rfl (by rw [← hso]; decide)
 clear HO hso
 unfold atCells tenCells strV
 simp only [List.cons_append,List.nil_append]
 clear m2 m3 m4
 go_enter Try.func21,Try.ntmps21
 go_wp2_with fail
 go_ret
 exact ⟨rfl,bl_tr (al1p _ _) (al1p _ _)⟩
theorem rmay8_13 (op:Int) (nm:Str) (mu:Bool) (a:AtA) (B:Nat) (w:World) (hn:isB nm) (h:AtIn B w a) (ht:okT8 a.T) :
  Calls Try.prog 21 #[.int .i64 op,.agg #[strV nm,strV (sortS 13),.bool mu],.agg (atCells a).toArray] w fun e w' => e = .returned (.bool (mayR op nm 13 a.d)) ∧ Below w.heap.size w w':=by
 obtain ⟨h1,h2,h3,h4,h5,h6,h7,h8,h9⟩:=h
 obtain ⟨m1,m2,m3,m4⟩:=ht
 have HS:=hide h8
 have H5:=hide h5
 have HN:=hide hn
 have nl:=h8.ls.len
 have nf:=h7.1.ls.len
 have n2:=h6.1.2.2.1.ls.len
 have n3:=h6.1.2.2.2.1.ls.len
 have n4:=h6.1.2.2.2.2.len
 clear h1 h2 h3 h4 h5 h6 h7 h9 h8 hn m1
 obtain ⟨nm2,kd,f,i,s,⟨t0,t1,t2,t3,t4⟩,A,fl,qf,cf,is,qi,ci⟩:=a
 have e:mayR op nm 13 (AtA.d ⟨nm2,kd,f,i,s,(t0,t1,t2,t3,t4),A,fl,qf,cf,is,qi,ci⟩) = (decide (t2.length + t3.length + t4.length = 1)):=rfl
 rw [e]
 clear e
 simp only at nl nf n2 n3 n4 m2 m3 m4
 obtain ⟨so,hso⟩:∃ so,sortS 13 = so:=⟨_,rfl⟩
 rw [hso]
 have HO:isB so:=by rw [← hso]; exact isB_of rfl
 have f0:((strOfNums so).toList == [102,108,97,103]) = false:=lit_no8 HO [102,108,97,103] rfl _ rfl (by rw [← hso]; decide)
 have f1:((strOfNums so).toList == [122,101,114,111]) = false:=lit_no8 HO [122,101,114,111] rfl _ rfl (by rw [← hso]; decide)
 have f2:((strOfNums so).toList == [111,110,101]) = false:=lit_no8 HO [111,110,101] rfl _ rfl (by rw [← hso]; decide)
 have f3:((strOfNums so).toList == [97,120,105,115]) = false:=lit_no8 HO [97,120,105,115] rfl _ rfl (by rw [← hso]; decide)
 have f4:((strOfNums so).toList == [115,105,122,101]) = false:=lit_no8 HO [115,105,122,101] rfl _ rfl (by rw [← hso]; decide)
 have f5:((strOfNums so).toList == [116,121,112,101]) = false:=lit_no8 HO [116,121,112,101] rfl _ rfl (by rw [← hso]; decide)
 have f6:((strOfNums so).toList == [116,101,120,116]) = false:=lit_no8 HO [116,101,120,116] rfl _ rfl (by rw [← hso]; decide)
 have f7:((strOfNums so).toList == [115,105,110,103,108,101]) = true:=lit_yes8 HO [115,105,110,103,108,101] rfl _ rfl (by rw [← hso]; rfl)
 clear HO hso
 unfold atCells tenCells strV
 simp only [List.cons_append,List.nil_append]
 have e3:wrap64 (wrap64 ((t2.length:Int) + (t3.length:Int)) + (t4.length:Int)) = ((t2.length + t3.length + t4.length:Nat):Int):=by unfold wrap64; omega
 by_cases h0:t2.length + t3.length + t4.length = 1
 ·have u0:((t2.length:Int) + (t3.length:Int) + (t4.length:Int) == 1) = true:=by simp; omega
  rw [decide_eq_true h0]
  clear h0 e3
  go_enter Try.func21,Try.ntmps21
  go_wp2_with fail
  go_ret
  exact ⟨rfl,bl_tr (al1p _ _) (al1p _ _)⟩
 ·have u0:((t2.length:Int) + (t3.length:Int) + (t4.length:Int) == 1) = false:=by simp; omega
  rw [decide_eq_false h0]
  clear h0 e3
  go_enter Try.func21,Try.ntmps21
  go_wp2_with fail
  go_ret
  exact ⟨rfl,bl_tr (al1p _ _) (al1p _ _)⟩
theorem rmay8_14 (op:Int) (nm:Str) (mu:Bool) (a:AtA) (B:Nat) (w:World) (hn:isB nm) (h:AtIn B w a) (ht:okT8 a.T) :
  Calls Try.prog 21 #[.int .i64 op,.agg #[strV nm,strV (sortS 14),.bool mu],.agg (atCells a).toArray] w fun e w' => e = .returned (.bool (mayR op nm 14 a.d)) ∧ Below w.heap.size w w':=by
 obtain ⟨h1,h2,h3,h4,h5,h6,h7,h8,h9⟩:=h
 obtain ⟨m1,m2,m3,m4⟩:=ht
 have HS:=hide h8
 have H5:=hide h5
 have HN:=hide hn
 have nl:=h8.ls.len
 have nf:=h7.1.ls.len
 have n2:=h6.1.2.2.1.ls.len
 have n3:=h6.1.2.2.2.1.ls.len
 have n4:=h6.1.2.2.2.2.len
 clear h1 h2 h3 h4 h5 h6 h7 h9 h8 hn m1
 obtain ⟨nm2,kd,f,i,s,⟨t0,t1,t2,t3,t4⟩,A,fl,qf,cf,is,qi,ci⟩:=a
 have e:mayR op nm 14 (AtA.d ⟨nm2,kd,f,i,s,(t0,t1,t2,t3,t4),A,fl,qf,cf,is,qi,ci⟩) = (decide (fl.length ≤ 4096)):=rfl
 rw [e]
 clear e
 simp only at nl nf n2 n3 n4 m2 m3 m4
 obtain ⟨so,hso⟩:∃ so,sortS 14 = so:=⟨_,rfl⟩
 rw [hso]
 have HO:isB so:=by rw [← hso]; exact isB_of rfl
 have f0:((strOfNums so).toList == [102,108,97,103]) = false:=lit_no8 HO [102,108,97,103] rfl _ rfl (by rw [← hso]; decide)
 have f1:((strOfNums so).toList == [122,101,114,111]) = false:=lit_no8 HO [122,101,114,111] rfl _ rfl (by rw [← hso]; decide)
 have f2:((strOfNums so).toList == [111,110,101]) = false:=lit_no8 HO [111,110,101] rfl _ rfl (by rw [← hso]; decide)
 have f3:((strOfNums so).toList == [97,120,105,115]) = false:=lit_no8 HO [97,120,105,115] rfl _ rfl (by rw [← hso]; decide)
 have f4:((strOfNums so).toList == [115,105,122,101]) = false:=lit_no8 HO [115,105,122,101] rfl _ rfl (by rw [← hso]; decide)
 have f5:((strOfNums so).toList == [116,121,112,101]) = false:=lit_no8 HO [116,121,112,101] rfl _ rfl (by rw [← hso]; decide)
 have f6:((strOfNums so).toList == [116,101,120,116]) = false:=lit_no8 HO [116,101,120,116] rfl _ rfl (by rw [← hso]; decide)
 have f7:((strOfNums so).toList == [115,105,110,103,108,101]) = false:=lit_no8 HO [115,105,110,103,108,101] rfl _ rfl (by rw [← hso]; decide)
 have f8:((strOfNums so).toList == [102,108,111,97,116,115]) = true:=lit_yes8 HO [102,108,111,97,116,115] rfl _ rfl (by rw [← hso]; rfl)
 clear HO hso
 unfold atCells tenCells strV
 simp only [List.cons_append,List.nil_append]
 clear m2 m3 m4
 by_cases h0:fl.length ≤ 4096
 ·have u0:decide ((fl.length:Int) ≤ 4096) = true:=by simp; omega
  rw [decide_eq_true h0]
  clear h0
  go_enter Try.func21,Try.ntmps21
  go_wp2_with fail
  go_ret
  exact ⟨rfl,bl_tr (al1p _ _) (al1p _ _)⟩
 ·have u0:decide ((fl.length:Int) ≤ 4096) = false:=by simp; omega
  rw [decide_eq_false h0]
  clear h0
  go_enter Try.func21,Try.ntmps21
  go_wp2_with fail
  go_ret
  exact ⟨rfl,bl_tr (al1p _ _) (al1p _ _)⟩
theorem rmay8_15 (op:Int) (nm:Str) (mu:Bool) (a:AtA) (B:Nat) (w:World) (hn:isB nm) (h:AtIn B w a) (ht:okT8 a.T) :
  Calls Try.prog 21 #[.int .i64 op,.agg #[strV nm,strV (sortS 15),.bool mu],.agg (atCells a).toArray] w fun e w' => e = .returned (.bool (mayR op nm 15 a.d)) ∧ Below w.heap.size w w':=by
 obtain ⟨h1,h2,h3,h4,h5,h6,h7,h8,h9⟩:=h
 obtain ⟨m1,m2,m3,m4⟩:=ht
 have HS:=hide h8
 have H5:=hide h5
 have HN:=hide hn
 have nl:=h8.ls.len
 have nf:=h7.1.ls.len
 have n2:=h6.1.2.2.1.ls.len
 have n3:=h6.1.2.2.2.1.ls.len
 have n4:=h6.1.2.2.2.2.len
 clear h1 h2 h3 h4 h5 h6 h7 h9 h8 hn m1
 obtain ⟨nm2,kd,f,i,s,⟨t0,t1,t2,t3,t4⟩,A,fl,qf,cf,is,qi,ci⟩:=a
 have e:mayR op nm 15 (AtA.d ⟨nm2,kd,f,i,s,(t0,t1,t2,t3,t4),A,fl,qf,cf,is,qi,ci⟩) = (decide (is.length ≤ 4096)):=rfl
 rw [e]
 clear e
 simp only at nl nf n2 n3 n4 m2 m3 m4
 obtain ⟨so,hso⟩:∃ so,sortS 15 = so:=⟨_,rfl⟩
 rw [hso]
 have HO:isB so:=by rw [← hso]; exact isB_of rfl
 have f0:((strOfNums so).toList == [102,108,97,103]) = false:=lit_no8 HO [102,108,97,103] rfl _ rfl (by rw [← hso]; decide)
 have f1:((strOfNums so).toList == [122,101,114,111]) = false:=lit_no8 HO [122,101,114,111] rfl _ rfl (by rw [← hso]; decide)
 have f2:((strOfNums so).toList == [111,110,101]) = false:=lit_no8 HO [111,110,101] rfl _ rfl (by rw [← hso]; decide)
 have f3:((strOfNums so).toList == [97,120,105,115]) = false:=lit_no8 HO [97,120,105,115] rfl _ rfl (by rw [← hso]; decide)
 have f4:((strOfNums so).toList == [115,105,122,101]) = false:=lit_no8 HO [115,105,122,101] rfl _ rfl (by rw [← hso]; decide)
 have f5:((strOfNums so).toList == [116,121,112,101]) = false:=lit_no8 HO [116,121,112,101] rfl _ rfl (by rw [← hso]; decide)
 have f6:((strOfNums so).toList == [116,101,120,116]) = false:=lit_no8 HO [116,101,120,116] rfl _ rfl (by rw [← hso]; decide)
 have f7:((strOfNums so).toList == [115,105,110,103,108,101]) = false:=lit_no8 HO [115,105,110,103,108,101] rfl _ rfl (by rw [← hso]; decide)
 have f8:((strOfNums so).toList == [102,108,111,97,116,115]) = false:=lit_no8 HO [102,108,111,97,116,115] rfl _ rfl (by rw [← hso]; decide)
 have f9:((strOfNums so).toList == [105,110,116,115]) = true:=lit_yes8 HO [105,110,116,115] rfl _ rfl (by rw [← hso]; rfl)
 clear HO hso
 unfold atCells tenCells strV
 simp only [List.cons_append,List.nil_append]
 clear m2 m3 m4
 by_cases h0:is.length ≤ 4096
 ·have u0:decide ((is.length:Int) ≤ 4096) = true:=by simp; omega
  rw [decide_eq_true h0]
  clear h0
  go_enter Try.func21,Try.ntmps21
  go_wp2_with fail
  go_ret
  exact ⟨rfl,bl_tr (al1p _ _) (al1p _ _)⟩
 ·have u0:decide ((is.length:Int) ≤ 4096) = false:=by simp; omega
  rw [decide_eq_false h0]
  clear h0
  go_enter Try.func21,Try.ntmps21
  go_wp2_with fail
  go_ret
  exact ⟨rfl,bl_tr (al1p _ _) (al1p _ _)⟩
theorem rmay8_16 (op:Int) (nm:Str) (mu:Bool) (a:AtA) (B:Nat) (w:World) (hn:isB nm) (h:AtIn B w a) (ht:okT8 a.T) :
  Calls Try.prog 21 #[.int .i64 op,.agg #[strV nm,strV (sortS 16),.bool mu],.agg (atCells a).toArray] w fun e w' => e = .returned (.bool (mayR op nm 16 a.d)) ∧ Below w.heap.size w w':=by
 obtain ⟨h1,h2,h3,h4,h5,h6,h7,h8,h9⟩:=h
 obtain ⟨m1,m2,m3,m4⟩:=ht
 have HS:=hide h8
 have H5:=hide h5
 have HN:=hide hn
 have nl:=h8.ls.len
 have nf:=h7.1.ls.len
 have n2:=h6.1.2.2.1.ls.len
 have n3:=h6.1.2.2.2.1.ls.len
 have n4:=h6.1.2.2.2.2.len
 clear h1 h2 h3 h4 h5 h6 h7 h9 h8 hn m1
 obtain ⟨nm2,kd,f,i,s,⟨t0,t1,t2,t3,t4⟩,A,fl,qf,cf,is,qi,ci⟩:=a
 have e:mayR op nm 16 (AtA.d ⟨nm2,kd,f,i,s,(t0,t1,t2,t3,t4),A,fl,qf,cf,is,qi,ci⟩) = (withinR is 8 0 7):=rfl
 rw [e]
 clear e
 simp only at nl nf n2 n3 n4 m2 m3 m4
 obtain ⟨so,hso⟩:∃ so,sortS 16 = so:=⟨_,rfl⟩
 rw [hso]
 have HO:isB so:=by rw [← hso]; exact isB_of rfl
 have f0:((strOfNums so).toList == [102,108,97,103]) = false:=lit_no8 HO [102,108,97,103] rfl _ rfl (by rw [← hso]; decide)
 have f1:((strOfNums so).toList == [122,101,114,111]) = false:=lit_no8 HO [122,101,114,111] rfl _ rfl (by rw [← hso]; decide)
 have f2:((strOfNums so).toList == [111,110,101]) = false:=lit_no8 HO [111,110,101] rfl _ rfl (by rw [← hso]; decide)
 have f3:((strOfNums so).toList == [97,120,105,115]) = false:=lit_no8 HO [97,120,105,115] rfl _ rfl (by rw [← hso]; decide)
 have f4:((strOfNums so).toList == [115,105,122,101]) = false:=lit_no8 HO [115,105,122,101] rfl _ rfl (by rw [← hso]; decide)
 have f5:((strOfNums so).toList == [116,121,112,101]) = false:=lit_no8 HO [116,121,112,101] rfl _ rfl (by rw [← hso]; decide)
 have f6:((strOfNums so).toList == [116,101,120,116]) = false:=lit_no8 HO [116,101,120,116] rfl _ rfl (by rw [← hso]; decide)
 have f7:((strOfNums so).toList == [115,105,110,103,108,101]) = false:=lit_no8 HO [115,105,110,103,108,101] rfl _ rfl (by rw [← hso]; decide)
 have f8:((strOfNums so).toList == [102,108,111,97,116,115]) = false:=lit_no8 HO [102,108,111,97,116,115] rfl _ rfl (by rw [← hso]; decide)
 have f9:((strOfNums so).toList == [105,110,116,115]) = false:=lit_no8 HO [105,110,116,115] rfl _ rfl (by rw [← hso]; decide)
 have f10:((strOfNums so).toList == [112,108,97,99,101,115]) = true:=lit_yes8 HO [112,108,97,99,101,115] rfl _ rfl (by rw [← hso]; rfl)
 clear HO hso
 unfold atCells tenCells strV
 simp only [List.cons_append,List.nil_append]
 clear m2 m3 m4
 have CW:=hide (fun v (hv:Below w.heap.size w v) => rwithin8_any qi ci is 8 (0) 7 v ((uh HS).below hv))
 obtain ⟨M,hM⟩:∃ M,withinR is 8 (0) 7 = M:=⟨_,rfl⟩
 rw [hM] at CW ⊢
 clear hM HN H5 HS
 go_enter Try.func21,Try.ntmps21
 go_wp2_with fail
 refine (uh CW _ (bl_tr (al1p _ _) (al1p _ _))).mono ?_
 rintro e w1 ⟨rfl,hb⟩
 have BB:=hide hb
 clear CW hb
 go_wp2_with fail
 go_ret
 exact ⟨rfl,bl_tr (bl_tr (al1p _ _) (al1p _ _)) (uh BB)⟩
theorem rmay8_17 (op:Int) (nm:Str) (mu:Bool) (a:AtA) (B:Nat) (w:World) (hn:isB nm) (h:AtIn B w a) (ht:okT8 a.T) :
  Calls Try.prog 21 #[.int .i64 op,.agg #[strV nm,strV (sortS 17),.bool mu],.agg (atCells a).toArray] w fun e w' => e = .returned (.bool (mayR op nm 17 a.d)) ∧ Below w.heap.size w w':=by
 obtain ⟨h1,h2,h3,h4,h5,h6,h7,h8,h9⟩:=h
 obtain ⟨m1,m2,m3,m4⟩:=ht
 have HS:=hide h8
 have H5:=hide h5
 have HN:=hide hn
 have nl:=h8.ls.len
 have nf:=h7.1.ls.len
 have n2:=h6.1.2.2.1.ls.len
 have n3:=h6.1.2.2.2.1.ls.len
 have n4:=h6.1.2.2.2.2.len
 clear h1 h2 h3 h4 h5 h6 h7 h9 h8 hn m1
 obtain ⟨nm2,kd,f,i,s,⟨t0,t1,t2,t3,t4⟩,A,fl,qf,cf,is,qi,ci⟩:=a
 have e:mayR op nm 17 (AtA.d ⟨nm2,kd,f,i,s,(t0,t1,t2,t3,t4),A,fl,qf,cf,is,qi,ci⟩) = (withinR is 8 (-8) 8):=rfl
 rw [e]
 clear e
 simp only at nl nf n2 n3 n4 m2 m3 m4
 obtain ⟨so,hso⟩:∃ so,sortS 17 = so:=⟨_,rfl⟩
 rw [hso]
 have HO:isB so:=by rw [← hso]; exact isB_of rfl
 have f0:((strOfNums so).toList == [102,108,97,103]) = false:=lit_no8 HO [102,108,97,103] rfl _ rfl (by rw [← hso]; decide)
 have f1:((strOfNums so).toList == [122,101,114,111]) = false:=lit_no8 HO [122,101,114,111] rfl _ rfl (by rw [← hso]; decide)
 have f2:((strOfNums so).toList == [111,110,101]) = false:=lit_no8 HO [111,110,101] rfl _ rfl (by rw [← hso]; decide)
 have f3:((strOfNums so).toList == [97,120,105,115]) = false:=lit_no8 HO [97,120,105,115] rfl _ rfl (by rw [← hso]; decide)
 have f4:((strOfNums so).toList == [115,105,122,101]) = false:=lit_no8 HO [115,105,122,101] rfl _ rfl (by rw [← hso]; decide)
 have f5:((strOfNums so).toList == [116,121,112,101]) = false:=lit_no8 HO [116,121,112,101] rfl _ rfl (by rw [← hso]; decide)
 have f6:((strOfNums so).toList == [116,101,120,116]) = false:=lit_no8 HO [116,101,120,116] rfl _ rfl (by rw [← hso]; decide)
 have f7:((strOfNums so).toList == [115,105,110,103,108,101]) = false:=lit_no8 HO [115,105,110,103,108,101] rfl _ rfl (by rw [← hso]; decide)
 have f8:((strOfNums so).toList == [102,108,111,97,116,115]) = false:=lit_no8 HO [102,108,111,97,116,115] rfl _ rfl (by rw [← hso]; decide)
 have f9:((strOfNums so).toList == [105,110,116,115]) = false:=lit_no8 HO [105,110,116,115] rfl _ rfl (by rw [← hso]; decide)
 have f10:((strOfNums so).toList == [112,108,97,99,101,115]) = false:=lit_no8 HO [112,108,97,99,101,115] rfl _ rfl (by rw [← hso]; decide)
 have f11:((strOfNums so).toList == [97,120,101,115]) = true:=lit_yes8 HO [97,120,101,115] rfl _ rfl (by rw [← hso]; rfl)
 clear HO hso
 unfold atCells tenCells strV
 simp only [List.cons_append,List.nil_append]
 clear m2 m3 m4
 have CW:=hide (fun v (hv:Below w.heap.size w v) => rwithin8_any qi ci is 8 (-8) 8 v ((uh HS).below hv))
 obtain ⟨M,hM⟩:∃ M,withinR is 8 (-8) 8 = M:=⟨_,rfl⟩
 rw [hM] at CW ⊢
 clear hM HN H5 HS
 go_enter Try.func21,Try.ntmps21
 go_wp2_with fail
 refine (uh CW _ (bl_tr (al1p _ _) (al1p _ _))).mono ?_
 rintro e w1 ⟨rfl,hb⟩
 have BB:=hide hb
 clear CW hb
 go_wp2_with fail
 go_ret
 exact ⟨rfl,bl_tr (bl_tr (al1p _ _) (al1p _ _)) (uh BB)⟩
theorem rmay8_18 (op:Int) (nm:Str) (mu:Bool) (a:AtA) (B:Nat) (w:World) (hn:isB nm) (h:AtIn B w a) (ht:okT8 a.T) :
  Calls Try.prog 21 #[.int .i64 op,.agg #[strV nm,strV (sortS 18),.bool mu],.agg (atCells a).toArray] w fun e w' => e = .returned (.bool (mayR op nm 18 a.d)) ∧ Below w.heap.size w w':=by
 obtain ⟨h1,h2,h3,h4,h5,h6,h7,h8,h9⟩:=h
 obtain ⟨m1,m2,m3,m4⟩:=ht
 have HS:=hide h8
 have H5:=hide h5
 have HN:=hide hn
 have nl:=h8.ls.len
 have nf:=h7.1.ls.len
 have n2:=h6.1.2.2.1.ls.len
 have n3:=h6.1.2.2.2.1.ls.len
 have n4:=h6.1.2.2.2.2.len
 clear h1 h2 h3 h4 h5 h6 h7 h9 h8 hn m1
 obtain ⟨nm2,kd,f,i,s,⟨t0,t1,t2,t3,t4⟩,A,fl,qf,cf,is,qi,ci⟩:=a
 have e:mayR op nm 18 (AtA.d ⟨nm2,kd,f,i,s,(t0,t1,t2,t3,t4),A,fl,qf,cf,is,qi,ci⟩) = (withinR is 8 1 4096):=rfl
 rw [e]
 clear e
 simp only at nl nf n2 n3 n4 m2 m3 m4
 obtain ⟨so,hso⟩:∃ so,sortS 18 = so:=⟨_,rfl⟩
 rw [hso]
 have HO:isB so:=by rw [← hso]; exact isB_of rfl
 have f0:((strOfNums so).toList == [102,108,97,103]) = false:=lit_no8 HO [102,108,97,103] rfl _ rfl (by rw [← hso]; decide)
 have f1:((strOfNums so).toList == [122,101,114,111]) = false:=lit_no8 HO [122,101,114,111] rfl _ rfl (by rw [← hso]; decide)
 have f2:((strOfNums so).toList == [111,110,101]) = false:=lit_no8 HO [111,110,101] rfl _ rfl (by rw [← hso]; decide)
 have f3:((strOfNums so).toList == [97,120,105,115]) = false:=lit_no8 HO [97,120,105,115] rfl _ rfl (by rw [← hso]; decide)
 have f4:((strOfNums so).toList == [115,105,122,101]) = false:=lit_no8 HO [115,105,122,101] rfl _ rfl (by rw [← hso]; decide)
 have f5:((strOfNums so).toList == [116,121,112,101]) = false:=lit_no8 HO [116,121,112,101] rfl _ rfl (by rw [← hso]; decide)
 have f6:((strOfNums so).toList == [116,101,120,116]) = false:=lit_no8 HO [116,101,120,116] rfl _ rfl (by rw [← hso]; decide)
 have f7:((strOfNums so).toList == [115,105,110,103,108,101]) = false:=lit_no8 HO [115,105,110,103,108,101] rfl _ rfl (by rw [← hso]; decide)
 have f8:((strOfNums so).toList == [102,108,111,97,116,115]) = false:=lit_no8 HO [102,108,111,97,116,115] rfl _ rfl (by rw [← hso]; decide)
 have f9:((strOfNums so).toList == [105,110,116,115]) = false:=lit_no8 HO [105,110,116,115] rfl _ rfl (by rw [← hso]; decide)
 have f10:((strOfNums so).toList == [112,108,97,99,101,115]) = false:=lit_no8 HO [112,108,97,99,101,115] rfl _ rfl (by rw [← hso]; decide)
 have f11:((strOfNums so).toList == [97,120,101,115]) = false:=lit_no8 HO [97,120,101,115] rfl _ rfl (by rw [← hso]; decide)
 have f12:((strOfNums so).toList == [115,105,122,101,115]) = true:=lit_yes8 HO [115,105,122,101,115] rfl _ rfl (by rw [← hso]; rfl)
 clear HO hso
 unfold atCells tenCells strV
 simp only [List.cons_append,List.nil_append]
 clear m2 m3 m4
 have CW:=hide (fun v (hv:Below w.heap.size w v) => rwithin8_any qi ci is 8 (1) 4096 v ((uh HS).below hv))
 obtain ⟨M,hM⟩:∃ M,withinR is 8 (1) 4096 = M:=⟨_,rfl⟩
 rw [hM] at CW ⊢
 clear hM HN H5 HS
 go_enter Try.func21,Try.ntmps21
 go_wp2_with fail
 refine (uh CW _ (bl_tr (al1p _ _) (al1p _ _))).mono ?_
 rintro e w1 ⟨rfl,hb⟩
 have BB:=hide hb
 clear CW hb
 go_wp2_with fail
 go_ret
 exact ⟨rfl,bl_tr (bl_tr (al1p _ _) (al1p _ _)) (uh BB)⟩
theorem rmay8_19 (op:Int) (nm:Str) (mu:Bool) (a:AtA) (B:Nat) (w:World) (hn:isB nm) (h:AtIn B w a) (ht:okT8 a.T) :
  Calls Try.prog 21 #[.int .i64 op,.agg #[strV nm,strV (sortS 19),.bool mu],.agg (atCells a).toArray] w fun e w' => e = .returned (.bool (mayR op nm 19 a.d)) ∧ Below w.heap.size w w':=by
 obtain ⟨h1,h2,h3,h4,h5,h6,h7,h8,h9⟩:=h
 obtain ⟨m1,m2,m3,m4⟩:=ht
 have HS:=hide h8
 have H5:=hide h5
 have HN:=hide hn
 have nl:=h8.ls.len
 have nf:=h7.1.ls.len
 have n2:=h6.1.2.2.1.ls.len
 have n3:=h6.1.2.2.2.1.ls.len
 have n4:=h6.1.2.2.2.2.len
 clear h1 h2 h3 h4 h5 h6 h7 h9 h8 hn m1
 obtain ⟨nm2,kd,f,i,s,⟨t0,t1,t2,t3,t4⟩,A,fl,qf,cf,is,qi,ci⟩:=a
 have e:mayR op nm 19 (AtA.d ⟨nm2,kd,f,i,s,(t0,t1,t2,t3,t4),A,fl,qf,cf,is,qi,ci⟩) = (withinR is 16 0 4096):=rfl
 rw [e]
 clear e
 simp only at nl nf n2 n3 n4 m2 m3 m4
 obtain ⟨so,hso⟩:∃ so,sortS 19 = so:=⟨_,rfl⟩
 rw [hso]
 have HO:isB so:=by rw [← hso]; exact isB_of rfl
 have f0:((strOfNums so).toList == [102,108,97,103]) = false:=lit_no8 HO [102,108,97,103] rfl _ rfl (by rw [← hso]; decide)
 have f1:((strOfNums so).toList == [122,101,114,111]) = false:=lit_no8 HO [122,101,114,111] rfl _ rfl (by rw [← hso]; decide)
 have f2:((strOfNums so).toList == [111,110,101]) = false:=lit_no8 HO [111,110,101] rfl _ rfl (by rw [← hso]; decide)
 have f3:((strOfNums so).toList == [97,120,105,115]) = false:=lit_no8 HO [97,120,105,115] rfl _ rfl (by rw [← hso]; decide)
 have f4:((strOfNums so).toList == [115,105,122,101]) = false:=lit_no8 HO [115,105,122,101] rfl _ rfl (by rw [← hso]; decide)
 have f5:((strOfNums so).toList == [116,121,112,101]) = false:=lit_no8 HO [116,121,112,101] rfl _ rfl (by rw [← hso]; decide)
 have f6:((strOfNums so).toList == [116,101,120,116]) = false:=lit_no8 HO [116,101,120,116] rfl _ rfl (by rw [← hso]; decide)
 have f7:((strOfNums so).toList == [115,105,110,103,108,101]) = false:=lit_no8 HO [115,105,110,103,108,101] rfl _ rfl (by rw [← hso]; decide)
 have f8:((strOfNums so).toList == [102,108,111,97,116,115]) = false:=lit_no8 HO [102,108,111,97,116,115] rfl _ rfl (by rw [← hso]; decide)
 have f9:((strOfNums so).toList == [105,110,116,115]) = false:=lit_no8 HO [105,110,116,115] rfl _ rfl (by rw [← hso]; decide)
 have f10:((strOfNums so).toList == [112,108,97,99,101,115]) = false:=lit_no8 HO [112,108,97,99,101,115] rfl _ rfl (by rw [← hso]; decide)
 have f11:((strOfNums so).toList == [97,120,101,115]) = false:=lit_no8 HO [97,120,101,115] rfl _ rfl (by rw [← hso]; decide)
 have f12:((strOfNums so).toList == [115,105,122,101,115]) = false:=lit_no8 HO [115,105,122,101,115] rfl _ rfl (by rw [← hso]; decide)
 have f13:((strOfNums so).toList == [112,97,100,115]) = true:=lit_yes8 HO [112,97,100,115] rfl _ rfl (by rw [← hso]; rfl)
 clear HO hso
 unfold atCells tenCells strV
 simp only [List.cons_append,List.nil_append]
 clear m2 m3 m4
 have CW:=hide (fun v (hv:Below w.heap.size w v) => rwithin8_any qi ci is 16 (0) 4096 v ((uh HS).below hv))
 obtain ⟨M,hM⟩:∃ M,withinR is 16 (0) 4096 = M:=⟨_,rfl⟩
 rw [hM] at CW ⊢
 clear hM HN H5 HS
 go_enter Try.func21,Try.ntmps21
 go_wp2_with fail
 refine (uh CW _ (bl_tr (al1p _ _) (al1p _ _))).mono ?_
 rintro e w1 ⟨rfl,hb⟩
 have BB:=hide hb
 clear CW hb
 go_wp2_with fail
 go_ret
 exact ⟨rfl,bl_tr (bl_tr (al1p _ _) (al1p _ _)) (uh BB)⟩
theorem rmay8_any (op:Int) (nm:Str) (so:Nat) (mu:Bool) (a:AtA) (B:Nat) (w:World) (hs:so < 20) (hn:isB nm) (h:AtIn B w a) (ht:okT8 a.T) :
  Calls Try.prog 21 #[.int .i64 op,.agg #[strV nm,strV (sortS so),.bool mu],.agg (atCells a).toArray] w fun e w' => e = .returned (.bool (mayR op nm so a.d)) ∧ Below w.heap.size w w':=by
 match so,hs with
 | 0,_ => exact rmay8_0 op nm mu a B w hn h ht
 | 1,_ => exact rmay8_1 op nm mu a B w hn h ht
 | 2,_ => exact rmay8_2 op nm mu a B w hn h ht
 | 3,_ => exact rmay8_3 op nm mu a B w hn h ht
 | 4,_ => exact rmay8_4 op nm mu a B w hn h ht
 | 5,_ => exact rmay8_5 op nm mu a B w hn h ht
 | 6,_ => exact rmay8_6 op nm mu a B w hn h ht
 | 7,_ => exact rmay8_7 op nm mu a B w hn h ht
 | 8,_ => exact rmay8_8 op nm mu a B w hn h ht
 | 9,_ => exact rmay8_9 op nm mu a B w hn h ht
 | 10,_ => exact rmay8_10 op nm mu a B w hn h ht
 | 11,_ => exact rmay8_11 op nm mu a B w hn h ht
 | 12,_ => exact rmay8_12 op nm mu a B w hn h ht
 | 13,_ => exact rmay8_13 op nm mu a B w hn h ht
 | 14,_ => exact rmay8_14 op nm mu a B w hn h ht
 | 15,_ => exact rmay8_15 op nm mu a B w hn h ht
 | 16,_ => exact rmay8_16 op nm mu a B w hn h ht
 | 17,_ => exact rmay8_17 op nm mu a B w hn h ht
 | 18,_ => exact rmay8_18 op nm mu a B w hn h ht
 | 19,_ => exact rmay8_19 op nm mu a B w hn h ht
 | n + 20,h => omega
end Go.Proofs.Ytnmciappielkcaa
