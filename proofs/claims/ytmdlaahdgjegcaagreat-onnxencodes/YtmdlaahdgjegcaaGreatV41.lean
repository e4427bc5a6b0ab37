import Derived.Test.YtmdlaahdgjegcaaGreatV40
set_option maxRecDepth 100000
set_option maxHeartbeats 8000000
namespace Go.Proofs.YtmdlaahdgjegcaaGreat
open Go.RowKit
set_option linter.unusedVariables false
theorem rattr4_any (g:Nat) (nm s:Str) (kd f i ty:Int) (nd nf ni nb nfl nil:Nat) (pd pf pi pb qf qi:Option Addr) (cd cf ci cb cfl cil:Nat) (k:F3) (w:World) (hw:FlB g w k) (b1 b2 b3 EM b5 b6 c1 c2 c3:Bool)
 (d1:(f != 0) = b1) (d2:(i != 0) = b2) (d3:(strOfNums s).toList.isEmpty = b3) (d5:decide ((0:Int) < (nfl:Int)) = b5) (d6:decide ((0:Int) < (nil:Int)) = b6) (e5:decide (0 < nfl) = b5) (e6:decide (0 < nil) = b6)
 (e1:decide ((4096:Int) < (s.length:Int)) = c1) (e2:decide ((4096:Int) < (nfl:Int)) = c2) (e3:decide ((4096:Int) < (nil:Int)) = c3)
 (C2:Hid (∀ v,Calls Tryz.prog 164 #[.agg #[.int .i64 ty,.slice pd nd cd,.slice pf nf cf,.slice pi ni ci,.slice pb nb cb]] v fun e w' => e = .returned (.bool EM) ∧ Below v.heap.size v w')) (F:F3) (hkd:kd = 4)
 (C3:Hid (∀ v,FE g (f3 (f3 (longW nm) (bad3 (kd != 1 && b1 || kd != 2 && b2 || kd != 3 && !b3 || kd != 4 && !EM || kd != 6 && b5 || kd != 7 && b6))) (big3 (c1 || c2 || c3))) w v → Calls Tryz.prog 51 #[.pointer (some ⟨g,0,none⟩),.agg #[.int .i64 ty,.slice pd nd cd,.slice pf nf cf,.slice pi ni ci,.slice pb nb cb]] v fun e w' => e = .returned (.tuple #[]) ∧ FE g F w w')) :
  Calls Tryz.prog 103 #[.pointer (some ⟨g,0,none⟩),.agg #[.string (strOfNums nm),.int .i64 kd,.int .u32 f,.int .i64 i,.string (strOfNums s),.int .i64 ty,.slice pd nd cd,.slice pf nf cf,.slice pi ni ci,.slice pb nb cb,.slice qf nfl cfl,.slice qi nil cil]] w fun e w' => e = .returned (.tuple #[]) ∧ FE g F w w':=by
 have z1:=Box.lt hw
 have hls:=str_len s
 have C1:=hide (fun v (hv:FlB g v k) => rlong_any g nm k v hv)
 unfold strV at C1
 have X3:=hide (Box.new w #[.string (strOfNums nm),.int .i64 kd,.int .u32 f,.int .i64 i,.string (strOfNums s),.int .i64 ty,.slice pd nd cd,.slice pf nf cf,.slice pi ni ci,.slice pb nb cb,.slice qf nfl cfl,.slice qi nil cil] 86)
 have HWB:=hide (Box.below hw (al1p w (Obj.cells #[.string (strOfNums nm),.int .i64 kd,.int .u32 f,.int .i64 i,.string (strOfNums s),.int .i64 ty,.slice pd nd cd,.slice pf nf cf,.slice pi ni ci,.slice pb nb cb,.slice qf nfl cfl,.slice qi nil cil] 86)))
 clear hw
 subst hkd
 go_enter Tryz.func103,Tryz.ntmps103
 go_wp2_with fail
 refine (uh C1 _ (uh HWB)).mono ?_
 rintro e w1 ⟨rfl,h1⟩
 have X4:=hide (h1.1.box (uh X3) (by omega))
 have F4:=hide (h1.2 k (uh HWB))
 have G1:=hide (FE.al _ z1 h1)
 have x4:=(uh X4).cell
 have f1:=(uh F4).cell
 have f2:=(uh F4).frozen
 have f3:=(uh F4).lt
 have y1:=((uh X4).other (k:=g) (by omega) 0 (.bool true)).cell
 have y2:=(Box.same (uh F4) 0 (.bool true)).frozen
 clear h1 X3 HWB C1
 go_wp2_with fail
 all_goals
  have HE:=at_end (A:=((4:Int) != 1 && b1 || (4:Int) != 2 && b2 || (4:Int) != 3 && !b3 || (4:Int) != 4 && !EM || (4:Int) != 6 && b5 || (4:Int) != 7 && b6)) (B:=(c1 || c2 || c3)) rfl (uh G1)
  first
   | refine (uh C3 _ (HE.1 (by simp [*]) (by simp [*]))).mono ?_
   | refine (uh C3 _ (HE.2.1 (by simp [*]) (by simp [*]))).mono ?_
   | refine (uh C3 _ (HE.2.2.1 (by simp [*]) (by simp [*]))).mono ?_
   | refine (uh C3 _ (HE.2.2.2 (by simp [*]) (by simp [*]))).mono ?_
  clear HE
  rintro e w3 ⟨rfl,h3⟩
  have H3:=hide h3
  clear h3
  go_wp2_with fail
  go_end0
  exact ⟨rfl,uh H3⟩
end Go.Proofs.YtmdlaahdgjegcaaGreat
