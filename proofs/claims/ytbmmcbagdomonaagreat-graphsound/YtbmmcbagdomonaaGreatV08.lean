import Derived.Test.YtbmmcbagdomonaaGreatV07
set_option maxRecDepth 100000
set_option maxHeartbeats 40000000
namespace Go.Proofs.YtbmmcbagdomonaaGreat
open Go.RowKit
set_option linter.unusedVariables false
def elemT:List RowD:=[([65,98,115],1,1,1,1,[]),
 ([78,101,103],1,1,1,1,[]),
 ([83,105,103,110],1,1,1,1,[]),
 ([70,108,111,111,114],1,1,1,1,[]),
 ([67,101,105,108],1,1,1,1,[]),
 ([82,111,117,110,100],1,1,1,1,[]),
 ([83,113,114,116],1,1,1,1,[]),
 ([82,101,99,105,112,114,111,99,97,108],1,1,1,1,[]),
 ([69,120,112],1,1,1,1,[]),
 ([76,111,103],1,1,1,1,[]),
 ([83,105,110],1,1,1,1,[]),
 ([67,111,115],1,1,1,1,[]),
 ([84,97,110,104],1,1,1,1,[]),
 ([69,114,102],1,1,1,1,[]),
 ([83,105,103,109,111,105,100],1,1,1,1,[]),
 ([82,101,108,117],1,1,1,1,[]),
 ([76,101,97,107,121,82,101,108,117],1,1,1,1,[([97,108,112,104,97],0,1008981770,0)]),
 ([69,108,117],1,1,1,1,[([97,108,112,104,97],0,1065353216,0)]),
 ([72,97,114,100,83,105,103,109,111,105,100],1,1,1,1,[([97,108,112,104,97],0,1045220557,0),([98,101,116,97],0,1056964608,0)]),
 ([83,111,102,116,112,108,117,115],1,1,1,1,[]),
 ([73,100,101,110,116,105,116,121],1,1,1,1,[]),
 ([78,111,116],1,1,1,1,[]),
 ([65,110,100],2,2,1,1,[]),
 ([79,114],2,2,1,1,[]),
 ([88,111,114],2,2,1,1,[]),
 ([73,115,78,97,78],1,1,1,1,[]),
 ([73,115,73,110,102],1,1,1,1,[([100,101,116,101,99,116,95,110,101,103,97,116,105,118,101],1,1,0),([100,101,116,101,99,116,95,112,111,115,105,116,105,118,101],1,1,0)]),
 ([65,100,100],2,2,1,1,[]),
 ([83,117,98],2,2,1,1,[]),
 ([77,117,108],2,2,1,1,[]),
 ([68,105,118],2,2,1,1,[]),
 ([77,111,100],2,2,1,1,[([102,109,111,100],1,0,0)]),
 ([80,111,119],2,2,1,1,[]),
 ([77,105,110],2,2,1,1,[]),
 ([77,97,120],2,2,1,1,[]),
 ([80,82,101,108,117],2,2,1,1,[]),
 ([69,113,117,97,108],2,2,1,1,[]),
 ([76,101,115,115],2,2,1,1,[]),
 ([76,101,115,115,79,114,69,113,117,97,108],2,2,1,1,[]),
 ([71,114,101,97,116,101,114],2,2,1,1,[]),
 ([71,114,101,97,116,101,114,79,114,69,113,117,97,108],2,2,1,1,[]),
 ([87,104,101,114,101],3,3,1,1,[]),
 ([67,108,105,112],1,3,1,1,[]),
 ([67,97,115,116],1,1,1,1,[([116,111],7,0,1)])]
def elemB:List (Array Value × TypeId):=[((([([97,108,112,104,97],0,1008981770,0)]:List AtD).flatMap adCells).toArray,180),
 ((([([97,108,112,104,97],0,1065353216,0)]:List AtD).flatMap adCells).toArray,180),
 ((([([97,108,112,104,97],0,1045220557,0),([98,101,116,97],0,1056964608,0)]:List AtD).flatMap adCells).toArray,180),
 ((([([100,101,116,101,99,116,95,110,101,103,97,116,105,118,101],1,1,0),([100,101,116,101,99,116,95,112,111,115,105,116,105,118,101],1,1,0)]:List AtD).flatMap adCells).toArray,180),
 ((([([102,109,111,100],1,0,0)]:List AtD).flatMap adCells).toArray,180),
 ((([([116,111],7,0,1)]:List AtD).flatMap adCells).toArray,180)]
def elemL (g:Nat → Nat):List RoA:=[⟨[65,98,115],1,1,1,1,[],none,0⟩,
 ⟨[78,101,103],1,1,1,1,[],none,0⟩,
 ⟨[83,105,103,110],1,1,1,1,[],none,0⟩,
 ⟨[70,108,111,111,114],1,1,1,1,[],none,0⟩,
 ⟨[67,101,105,108],1,1,1,1,[],none,0⟩,
 ⟨[82,111,117,110,100],1,1,1,1,[],none,0⟩,
 ⟨[83,113,114,116],1,1,1,1,[],none,0⟩,
 ⟨[82,101,99,105,112,114,111,99,97,108],1,1,1,1,[],none,0⟩,
 ⟨[69,120,112],1,1,1,1,[],none,0⟩,
 ⟨[76,111,103],1,1,1,1,[],none,0⟩,
 ⟨[83,105,110],1,1,1,1,[],none,0⟩,
 ⟨[67,111,115],1,1,1,1,[],none,0⟩,
 ⟨[84,97,110,104],1,1,1,1,[],none,0⟩,
 ⟨[69,114,102],1,1,1,1,[],none,0⟩,
 ⟨[83,105,103,109,111,105,100],1,1,1,1,[],none,0⟩,
 ⟨[82,101,108,117],1,1,1,1,[],none,0⟩,
 ⟨[76,101,97,107,121,82,101,108,117],1,1,1,1,[([97,108,112,104,97],0,1008981770,0)],some ⟨g 0,0,none⟩,1⟩,
 ⟨[69,108,117],1,1,1,1,[([97,108,112,104,97],0,1065353216,0)],some ⟨g 1,0,none⟩,1⟩,
 ⟨[72,97,114,100,83,105,103,109,111,105,100],1,1,1,1,[([97,108,112,104,97],0,1045220557,0),([98,101,116,97],0,1056964608,0)],some ⟨g 2,0,none⟩,2⟩,
 ⟨[83,111,102,116,112,108,117,115],1,1,1,1,[],none,0⟩,
 ⟨[73,100,101,110,116,105,116,121],1,1,1,1,[],none,0⟩,
 ⟨[78,111,116],1,1,1,1,[],none,0⟩,
 ⟨[65,110,100],2,2,1,1,[],none,0⟩,
 ⟨[79,114],2,2,1,1,[],none,0⟩,
 ⟨[88,111,114],2,2,1,1,[],none,0⟩,
 ⟨[73,115,78,97,78],1,1,1,1,[],none,0⟩,
 ⟨[73,115,73,110,102],1,1,1,1,[([100,101,116,101,99,116,95,110,101,103,97,116,105,118,101],1,1,0),([100,101,116,101,99,116,95,112,111,115,105,116,105,118,101],1,1,0)],some ⟨g 3,0,none⟩,2⟩,
 ⟨[65,100,100],2,2,1,1,[],none,0⟩,
 ⟨[83,117,98],2,2,1,1,[],none,0⟩,
 ⟨[77,117,108],2,2,1,1,[],none,0⟩,
 ⟨[68,105,118],2,2,1,1,[],none,0⟩,
 ⟨[77,111,100],2,2,1,1,[([102,109,111,100],1,0,0)],some ⟨g 4,0,none⟩,1⟩,
 ⟨[80,111,119],2,2,1,1,[],none,0⟩,
 ⟨[77,105,110],2,2,1,1,[],none,0⟩,
 ⟨[77,97,120],2,2,1,1,[],none,0⟩,
 ⟨[80,82,101,108,117],2,2,1,1,[],none,0⟩,
 ⟨[69,113,117,97,108],2,2,1,1,[],none,0⟩,
 ⟨[76,101,115,115],2,2,1,1,[],none,0⟩,
 ⟨[76,101,115,115,79,114,69,113,117,97,108],2,2,1,1,[],none,0⟩,
 ⟨[71,114,101,97,116,101,114],2,2,1,1,[],none,0⟩,
 ⟨[71,114,101,97,116,101,114,79,114,69,113,117,97,108],2,2,1,1,[],none,0⟩,
 ⟨[87,104,101,114,101],3,3,1,1,[],none,0⟩,
 ⟨[67,108,105,112],1,3,1,1,[],none,0⟩,
 ⟨[67,97,115,116],1,1,1,1,[([116,111],7,0,1)],some ⟨g 5,0,none⟩,1⟩]
theorem elemB_len:elemB.length = 6:=rfl
theorem elemL_len (g:Nat → Nat):(elemL g).length = 44:=rfl
theorem elemL_d (g:Nat → Nat):(elemL g).map RoA.d = elemT:=rfl
theorem elem_in {w W:World} (hb:∀ k x,elemB[k]? = some x → Box W (w.heap.size + k) x.1 x.2):∀ x ∈ elemL (fun k => w.heap.size + k),RoIn W x :=
 List.forall_mem_cons.2 ⟨AdIn.nil W,List.forall_mem_cons.2 ⟨AdIn.nil W,List.forall_mem_cons.2 ⟨AdIn.nil W,List.forall_mem_cons.2 ⟨AdIn.nil W,List.forall_mem_cons.2 ⟨AdIn.nil W,List.forall_mem_cons.2 ⟨AdIn.nil W,List.forall_mem_cons.2 ⟨AdIn.nil W,List.forall_mem_cons.2 ⟨AdIn.nil W,List.forall_mem_cons.2 ⟨AdIn.nil W,List.forall_mem_cons.2 ⟨AdIn.nil W,List.forall_mem_cons.2 ⟨AdIn.nil W,List.forall_mem_cons.2 ⟨AdIn.nil W,List.forall_mem_cons.2 ⟨AdIn.nil W,List.forall_mem_cons.2 ⟨AdIn.nil W,List.forall_mem_cons.2 ⟨AdIn.nil W,List.forall_mem_cons.2 ⟨AdIn.nil W,List.forall_mem_cons.2 ⟨AdIn.box (hb 0 _ rfl) rfl (Nat.le_of_ble_eq_true rfl),List.forall_mem_cons.2 ⟨AdIn.box (hb 1 _ rfl) rfl (Nat.le_of_ble_eq_true rfl),List.forall_mem_cons.2 ⟨AdIn.box (hb 2 _ rfl) rfl (Nat.le_of_ble_eq_true rfl),List.forall_mem_cons.2 ⟨AdIn.nil W,List.forall_mem_cons.2 ⟨AdIn.nil W,List.forall_mem_cons.2 ⟨AdIn.nil W,List.forall_mem_cons.2 ⟨AdIn.nil W,List.forall_mem_cons.2 ⟨AdIn.nil W,List.forall_mem_cons.2 ⟨AdIn.nil W,List.forall_mem_cons.2 ⟨AdIn.nil W,List.forall_mem_cons.2 ⟨AdIn.box (hb 3 _ rfl) rfl (Nat.le_of_ble_eq_true rfl),List.forall_mem_cons.2 ⟨AdIn.nil W,List.forall_mem_cons.2 ⟨AdIn.nil W,List.forall_mem_cons.2 ⟨AdIn.nil W,List.forall_mem_cons.2 ⟨AdIn.nil W,List.forall_mem_cons.2 ⟨AdIn.box (hb 4 _ rfl) rfl (Nat.le_of_ble_eq_true rfl),List.forall_mem_cons.2 ⟨AdIn.nil W,List.forall_mem_cons.2 ⟨AdIn.nil W,List.forall_mem_cons.2 ⟨AdIn.nil W,List.forall_mem_cons.2 ⟨AdIn.nil W,List.forall_mem_cons.2 ⟨AdIn.nil W,List.forall_mem_cons.2 ⟨AdIn.nil W,List.forall_mem_cons.2 ⟨AdIn.nil W,List.forall_mem_cons.2 ⟨AdIn.nil W,List.forall_mem_cons.2 ⟨AdIn.nil W,List.forall_mem_cons.2 ⟨AdIn.nil W,List.forall_mem_cons.2 ⟨AdIn.nil W,List.forall_mem_cons.2 ⟨AdIn.box (hb 5 _ rfl) rfl (Nat.le_of_ble_eq_true rfl),fun x hx => by cases hx⟩⟩⟩⟩⟩⟩⟩⟩⟩⟩⟩⟩⟩⟩⟩⟩⟩⟩⟩⟩⟩⟩⟩⟩⟩⟩⟩⟩⟩⟩⟩⟩⟩⟩⟩⟩⟩⟩⟩⟩⟩⟩⟩⟩
theorem elem_fin {w W:World} {b:Nat} (hW:W = (pushAll w elemB).alloc (.cells ((elemL (fun k => w.heap.size + k)).flatMap roCells).toArray 142)) (hb:b = w.heap.size + 6) :
  TabIn W (some ⟨b,0,none⟩) 44 (elemL (fun k => w.heap.size + k)) elemT ∧ Below w.heap.size w W:=by
 have hs:(pushAll w elemB).heap.size = b:=by rw [pushAll_size,hb]; rfl
 have h0:Box W b ((elemL (fun k => w.heap.size + k)).flatMap roCells).toArray 142:=by rw [hW,← hs]; exact Box.new _ _ _
 have hB:Below (pushAll w elemB).heap.size (pushAll w elemB) W:=by rw [hW]; exact al1p _ _
 exact ⟨⟨rc_box roWd noRoA h0 rfl (Nat.le_of_ble_eq_true rfl),elem_in (fun k x h => (pushAll_box _ w k x h).below hB),elemL_d _⟩,bl_tr (pushAll_below _ _) hB⟩
theorem elem_eq (w:World):elemL (fun k => (pushAll w (elemB.take k)).heap.size) = elemL (fun k => w.heap.size + k):=by
 simp only [elemL,pushAll_size,List.length_take,elemB_len]
 rfl
theorem elem_run (w:World):runF Tryz.prog 157 #[] w = some (true,.ok (.slice (some ⟨(pushAll w elemB).heap.size,0,none⟩) 44 44) ((pushAll w elemB).alloc (.cells ((elemL (fun k => (pushAll w (elemB.take k)).heap.size)).flatMap roCells).toArray 142)),(pushAll w elemB).alloc (.cells ((elemL (fun k => (pushAll w (elemB.take k)).heap.size)).flatMap roCells).toArray 142)):=by
 kernel_rfl
theorem celem8_any (w:World):Calls Tryz.prog 157 #[] w fun e w' => ∃ b L,e = .returned (.slice (some ⟨b,0,none⟩) 44 44) ∧ L.length = 44 ∧ TabIn w' (some ⟨b,0,none⟩) 44 L elemT ∧ Below w.heap.size w w':=by
 refine runF_calls (elem_run w) ⟨_,_,rfl,elemL_len (fun k => w.heap.size + k),?_⟩
 rw [elem_eq]
 exact elem_fin rfl (by rw [pushAll_size]; rfl)
end Go.Proofs.YtbmmcbagdomonaaGreat
