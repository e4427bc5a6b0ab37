import Derived.Test.YtbmmcbagdomonaaGreatV07
set_option maxRecDepth 100000
set_option maxHeartbeats 40000000
namespace Go.Proofs.YtbmmcbagdomonaaGreat
open Go.RowKit
set_option linter.unusedVariables false
def moveT:List RowD:=[([84,114,97,110,115,112,111,115,101],1,1,1,1,[([112,101,114,109],16,0,0)]),
 ([82,101,115,104,97,112,101],2,2,1,1,[([97,108,108,111,119,122,101,114,111],1,0,0)]),
 ([67,111,110,99,97,116],1,64,1,1,[([97,120,105,115],4,0,1)]),
 ([83,112,108,105,116],1,2,1,64,[([97,120,105,115],4,0,0)]),
 ([83,108,105,99,101],3,5,1,1,[]),
 ([71,97,116,104,101,114],2,2,1,1,[([97,120,105,115],4,0,0)]),
 ([71,97,116,104,101,114,69,108,101,109,101,110,116,115],2,2,1,1,[([97,120,105,115],4,0,0)]),
 ([83,99,97,116,116,101,114,69,108,101,109,101,110,116,115],3,3,1,1,[([97,120,105,115],4,0,0),([114,101,100,117,99,116,105,111,110],8,0,0)]),
 ([80,97,100],2,3,1,1,[([109,111,100,101],9,1,0)]),
 ([84,105,108,101],2,2,1,1,[]),
 ([69,120,112,97,110,100],2,2,1,1,[]),
 ([83,113,117,101,101,122,101],1,2,1,1,[]),
 ([85,110,115,113,117,101,101,122,101],2,2,1,1,[]),
 ([70,108,97,116,116,101,110],1,1,1,1,[([97,120,105,115],4,1,0)]),
 ([83,104,97,112,101],1,1,1,1,[([101,110,100],5,0,0),([115,116,97,114,116],5,0,0)]),
 ([83,105,122,101],1,1,1,1,[]),
 ([67,111,110,115,116,97,110,116],0,0,1,1,[([118,97,108,117,101],12,0,0),([118,97,108,117,101,95,102,108,111,97,116],0,0,0),([118,97,108,117,101,95,102,108,111,97,116,115],14,0,0),([118,97,108,117,101,95,105,110,116],5,0,0),([118,97,108,117,101,95,105,110,116,115],15,0,0)]),
 ([67,111,110,115,116,97,110,116,79,102,83,104,97,112,101],1,1,1,1,[([118,97,108,117,101],13,0,0)]),
 ([68,101,112,116,104,84,111,83,112,97,99,101],1,1,1,1,[([98,108,111,99,107,115,105,122,101],6,0,1),([109,111,100,101],10,6,0)]),
 ([83,112,97,99,101,84,111,68,101,112,116,104],1,1,1,1,[([98,108,111,99,107,115,105,122,101],6,0,1)])]
def moveB:List (Array Value × TypeId):=[((([([97,120,105,115],4,0,0)]:List AtD).flatMap adCells).toArray,180),
 ((([([98,108,111,99,107,115,105,122,101],6,0,1)]:List AtD).flatMap adCells).toArray,180),
 ((([([112,101,114,109],16,0,0)]:List AtD).flatMap adCells).toArray,180),
 ((([([97,108,108,111,119,122,101,114,111],1,0,0)]:List AtD).flatMap adCells).toArray,180),
 ((([([97,120,105,115],4,0,1)]:List AtD).flatMap adCells).toArray,180),
 ((([([97,120,105,115],4,0,0)]:List AtD).flatMap adCells).toArray,180),
 ((([([97,120,105,115],4,0,0)]:List AtD).flatMap adCells).toArray,180),
 ((([([97,120,105,115],4,0,0)]:List AtD).flatMap adCells).toArray,180),
 ((([([97,120,105,115],4,0,0),([114,101,100,117,99,116,105,111,110],8,0,0)]:List AtD).flatMap adCells).toArray,180),
 ((([([109,111,100,101],9,1,0)]:List AtD).flatMap adCells).toArray,180),
 ((([([97,120,105,115],4,1,0)]:List AtD).flatMap adCells).toArray,180),
 ((([([101,110,100],5,0,0),([115,116,97,114,116],5,0,0)]:List AtD).flatMap adCells).toArray,180),
 ((([([118,97,108,117,101],12,0,0),([118,97,108,117,101,95,102,108,111,97,116],0,0,0),([118,97,108,117,101,95,102,108,111,97,116,115],14,0,0),([118,97,108,117,101,95,105,110,116],5,0,0),([118,97,108,117,101,95,105,110,116,115],15,0,0)]:List AtD).flatMap adCells).toArray,180),
 ((([([118,97,108,117,101],13,0,0)]:List AtD).flatMap adCells).toArray,180),
 ((([([98,108,111,99,107,115,105,122,101],6,0,1),([109,111,100,101],10,6,0)]:List AtD).flatMap adCells).toArray,180),
 ((([([98,108,111,99,107,115,105,122,101],6,0,1)]:List AtD).flatMap adCells).toArray,180)]
def moveL (g:Nat → Nat):List RoA:=[⟨[84,114,97,110,115,112,111,115,101],1,1,1,1,[([112,101,114,109],16,0,0)],some ⟨g 2,0,none⟩,1⟩,
 ⟨[82,101,115,104,97,112,101],2,2,1,1,[([97,108,108,111,119,122,101,114,111],1,0,0)],some ⟨g 3,0,none⟩,1⟩,
 ⟨[67,111,110,99,97,116],1,64,1,1,[([97,120,105,115],4,0,1)],some ⟨g 4,0,none⟩,1⟩,
 ⟨[83,112,108,105,116],1,2,1,64,[([97,120,105,115],4,0,0)],some ⟨g 5,0,none⟩,1⟩,
 ⟨[83,108,105,99,101],3,5,1,1,[],none,0⟩,
 ⟨[71,97,116,104,101,114],2,2,1,1,[([97,120,105,115],4,0,0)],some ⟨g 6,0,none⟩,1⟩,
 ⟨[71,97,116,104,101,114,69,108,101,109,101,110,116,115],2,2,1,1,[([97,120,105,115],4,0,0)],some ⟨g 7,0,none⟩,1⟩,
 ⟨[83,99,97,116,116,101,114,69,108,101,109,101,110,116,115],3,3,1,1,[([97,120,105,115],4,0,0),([114,101,100,117,99,116,105,111,110],8,0,0)],some ⟨g 8,0,none⟩,2⟩,
 ⟨[80,97,100],2,3,1,1,[([109,111,100,101],9,1,0)],some ⟨g 9,0,none⟩,1⟩,
 ⟨[84,105,108,101],2,2,1,1,[],none,0⟩,
 ⟨[69,120,112,97,110,100],2,2,1,1,[],none,0⟩,
 ⟨[83,113,117,101,101,122,101],1,2,1,1,[],none,0⟩,
 ⟨[85,110,115,113,117,101,101,122,101],2,2,1,1,[],none,0⟩,
 ⟨[70,108,97,116,116,101,110],1,1,1,1,[([97,120,105,115],4,1,0)],some ⟨g 10,0,none⟩,1⟩,
 ⟨[83,104,97,112,101],1,1,1,1,[([101,110,100],5,0,0),([115,116,97,114,116],5,0,0)],some ⟨g 11,0,none⟩,2⟩,
 ⟨[83,105,122,101],1,1,1,1,[],none,0⟩,
 ⟨[67,111,110,115,116,97,110,116],0,0,1,1,[([118,97,108,117,101],12,0,0),([118,97,108,117,101,95,102,108,111,97,116],0,0,0),([118,97,108,117,101,95,102,108,111,97,116,115],14,0,0),([118,97,108,117,101,95,105,110,116],5,0,0),([118,97,108,117,101,95,105,110,116,115],15,0,0)],some ⟨g 12,0,none⟩,5⟩,
 ⟨[67,111,110,115,116,97,110,116,79,102,83,104,97,112,101],1,1,1,1,[([118,97,108,117,101],13,0,0)],some ⟨g 13,0,none⟩,1⟩,
 ⟨[68,101,112,116,104,84,111,83,112,97,99,101],1,1,1,1,[([98,108,111,99,107,115,105,122,101],6,0,1),([109,111,100,101],10,6,0)],some ⟨g 14,0,none⟩,2⟩,
 ⟨[83,112,97,99,101,84,111,68,101,112,116,104],1,1,1,1,[([98,108,111,99,107,115,105,122,101],6,0,1)],some ⟨g 15,0,none⟩,1⟩]
theorem moveL_len (g:Nat → Nat):(moveL g).length = 20:=rfl
theorem moveL_d (g:Nat → Nat):(moveL g).map RoA.d = moveT:=rfl
theorem move_in {w W:World} (hb:∀ k x,moveB[k]? = some x → Box W (w.heap.size + k) x.1 x.2):∀ x ∈ moveL (fun k => w.heap.size + k),RoIn W x :=
 List.forall_mem_cons.2 ⟨AdIn.box (hb 2 _ rfl) rfl (Nat.le_of_ble_eq_true rfl),List.forall_mem_cons.2 ⟨AdIn.box (hb 3 _ rfl) rfl (Nat.le_of_ble_eq_true rfl),List.forall_mem_cons.2 ⟨AdIn.box (hb 4 _ rfl) rfl (Nat.le_of_ble_eq_true rfl),List.forall_mem_cons.2 ⟨AdIn.box (hb 5 _ rfl) rfl (Nat.le_of_ble_eq_true rfl),List.forall_mem_cons.2 ⟨AdIn.nil W,List.forall_mem_cons.2 ⟨AdIn.box (hb 6 _ rfl) rfl (Nat.le_of_ble_eq_true rfl),List.forall_mem_cons.2 ⟨AdIn.box (hb 7 _ rfl) rfl (Nat.le_of_ble_eq_true rfl),List.forall_mem_cons.2 ⟨AdIn.box (hb 8 _ rfl) rfl (Nat.le_of_ble_eq_true rfl),List.forall_mem_cons.2 ⟨AdIn.box (hb 9 _ rfl) rfl (Nat.le_of_ble_eq_true rfl),List.forall_mem_cons.2 ⟨AdIn.nil W,List.forall_mem_cons.2 ⟨AdIn.nil W,List.forall_mem_cons.2 ⟨AdIn.nil W,List.forall_mem_cons.2 ⟨AdIn.nil W,List.forall_mem_cons.2 ⟨AdIn.box (hb 10 _ rfl) rfl (Nat.le_of_ble_eq_true rfl),List.forall_mem_cons.2 ⟨AdIn.box (hb 11 _ rfl) rfl (Nat.le_of_ble_eq_true rfl),List.forall_mem_cons.2 ⟨AdIn.nil W,List.forall_mem_cons.2 ⟨AdIn.box (hb 12 _ rfl) rfl (Nat.le_of_ble_eq_true rfl),List.forall_mem_cons.2 ⟨AdIn.box (hb 13 _ rfl) rfl (Nat.le_of_ble_eq_true rfl),List.forall_mem_cons.2 ⟨AdIn.box (hb 14 _ rfl) rfl (Nat.le_of_ble_eq_true rfl),List.forall_mem_cons.2 ⟨AdIn.box (hb 15 _ rfl) rfl (Nat.le_of_ble_eq_true rfl),fun x hx => by cases hx⟩⟩⟩⟩⟩⟩⟩⟩⟩⟩⟩⟩⟩⟩⟩⟩⟩⟩⟩⟩
theorem move_fin {w W:World} {b:Nat} (hW:W = (pushAll w moveB).alloc (.cells ((moveL (fun k => w.heap.size + k)).flatMap roCells).toArray 142)) (hb:b = w.heap.size + 16) :
  TabIn W (some ⟨b,0,none⟩) 20 (moveL (fun k => w.heap.size + k)) moveT ∧ Below w.heap.size w W:=by
 have hs:(pushAll w moveB).heap.size = b:=by rw [pushAll_size,hb]; rfl
 have h0:Box W b ((moveL (fun k => w.heap.size + k)).flatMap roCells).toArray 142:=by rw [hW,← hs]; exact Box.new _ _ _
 have hB:Below (pushAll w moveB).heap.size (pushAll w moveB) W:=by rw [hW]; exact al1p _ _
 exact ⟨⟨rc_box roWd noRoA h0 rfl (Nat.le_of_ble_eq_true rfl),move_in (fun k x h => (pushAll_box _ w k x h).below hB),moveL_d _⟩,bl_tr (pushAll_below _ _) hB⟩
theorem cmove8_any (w:World):Calls Tryz.prog 158 #[] w fun e w' => ∃ b L,e = .returned (.slice (some ⟨b,0,none⟩) 20 20) ∧ L.length = 20 ∧ TabIn w' (some ⟨b,0,none⟩) 20 L moveT ∧ Below w.heap.size w w':=by
 go_enter Tryz.func158,Tryz.ntmps158
 go_wp2_with fail
 go_ret
 refine ⟨_,_,rfl,moveL_len (fun k => w.heap.size + k),?_⟩
 refine move_fin ?_ ?_
 ·kernel_rfl
 ·kernel_rfl
end Go.Proofs.YtbmmcbagdomonaaGreat
