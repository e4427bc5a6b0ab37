import Derived.Test.YtbmmcbagdomonaaGreatV30
set_option maxRecDepth 100000
set_option maxHeartbeats 40000000
namespace Go.Proofs.YtbmmcbagdomonaaGreat
open Go.RowKit
set_option linter.unusedVariables false
set_option linter.unusedSimpArgs false
theorem results_se1 {fn:Func} {tmps:Array Value} {w:World} {g k:Nat} {cs:Array Value} {t:TypeId} (hf:fn.results = #[.cell k 49]) (hk:tmps.getD k undef = .pointer (some ⟨g,0,none⟩)) (hb:Box w g cs t) (hs:cs.size = 36):(results fn tmps).run Tryz.prog w = .ok (.agg cs) w:=by
 have e:=loadVar_box8 hb hs
 unfold results
 rw [hf]
 simp only [List.mapM_toArray,List.mapM_cons,List.mapM_nil,hk,asAddr,Sem.run_bind,Sem.run_pure,Result.andThen_ok,e,Sem.run_map]
 simp [e]
theorem FIn.one {B g:Nat} {w:World} {cs:Array Value} {k:Nat}:∀ {f:FV},FIn B g w cs k f → ∀ v,cs[k]? = some v → v.oneCell' = true
 | ⟨0,_,_,_,_⟩,h,v,e => by rw [h.1] at e; cases e; rfl
 | ⟨1,_,_,_,_⟩,h,v,e => by rw [h.1] at e; cases e; rfl
 | ⟨2,_,_,_,_⟩,h,v,e => by have h':cs[k]? = _:=h; rw [h'] at e; cases e; rfl
 | ⟨3,_,_,_,_⟩,⟨p,c,h,_⟩,v,e => by rw [h] at e; cases e; rfl
 | ⟨_ + 4,_,_,_,_⟩,⟨A,h,_⟩,v,e => by rw [h.1] at e; cases e; rfl
theorem FIn.ones5 {B g:Nat} {w:World} {cs:Array Value}:∀ {f:FV},kindF f = 4 → FIn B g w cs 31 f → ∀ j v,32 ≤ j → j < 36 → cs[j]? = some v → v.oneCell' = true
 | ⟨0,_,_,_,_⟩,h,_,_,_,_,_,_ => by cases h
 | ⟨1,_,_,_,_⟩,h,_,_,_,_,_,_ => by cases h
 | ⟨2,_,_,_,_⟩,h,_,_,_,_,_,_ => by cases h
 | ⟨3,_,_,_,_⟩,h,_,_,_,_,_,_ => by cases h
 | ⟨_ + 4,_,_,_,_⟩,_,⟨A,⟨_,h1,h2,h3,h4⟩,_⟩,j,v,hj,hk,e => by
   have hc:j = 32 ∨ j = 33 ∨ j = 34 ∨ j = 35:=by omega
   rcases hc with rfl | rfl | rfl | rfl
   ·rw [h1] at e; cases e; rfl
   ·rw [h2] at e; cases e; rfl
   ·rw [h3] at e; cases e; rfl
   ·rw [h4] at e; cases e; rfl
theorem SeIn.ones {B g:Nat} {w:World} {cs:Array Value} {D:SeD} (h:SeIn B g w cs D):Ones cs:=fun v hv => by
 obtain ⟨k,hk,e⟩:=List.getElem_of_mem hv
 have hk':k < 36:=by rw [← h.1]; simpa using hk
 have e':cs[k]? = some v:=by rw [← e]; simp
 rcases Nat.lt_or_ge k 32 with hl | hl
 ·exact (h.2 k (by omega)).1.one v e'
 ·exact FIn.ones5 (h.2 31 (by omega)).2 (h.2 31 (by omega)).1 k v hl hk' e'
theorem OwL.reg {kd:IntKind} {B g g':Nat} {w:World} {p:Option Addr} {c:Nat} {xs:List Int} (h:OwL kd B g w p c xs) (hg:w.heap.size ≤ g'):OwL kd B g' w p c xs:=⟨h.1,fun b o e hp => by
 obtain ⟨h1,h2,h3⟩:=h.2 b o e hp
 obtain ⟨b',o',e',hb,_⟩:=h.1.ls.lies hp
 rw [e] at e'
 simp only [Option.some.injEq,Addr.mk.injEq] at e'
 obtain ⟨rfl,rfl,_⟩:=e'
 exact ⟨h1,by omega,h3⟩⟩
theorem OwB.reg {B g g':Nat} {w:World} {p:Option Addr} {c:Nat} {xs:List Bool} (h:OwB B g w p c xs) (hg:w.heap.size ≤ g'):OwB B g' w p c xs:=⟨h.1,fun b o e hp => by
 obtain ⟨h1,h2,h3⟩:=h.2 b o e hp
 obtain ⟨b',o',e',hb,_⟩:=h.1.lies hp
 rw [e] at e'
 simp only [Option.some.injEq,Addr.mk.injEq] at e'
 obtain ⟨rfl,rfl,_⟩:=e'
 exact ⟨h1,by omega,h3⟩⟩
theorem FIn.reg {B g g':Nat} {w:World} {cs:Array Value} {k:Nat} (hg:w.heap.size ≤ g'):∀ {f:FV},FIn B g w cs k f → FIn B g' w cs k f
 | ⟨0,_,_,_,_⟩,h => h
 | ⟨1,_,_,_,_⟩,h => h
 | ⟨2,_,_,_,_⟩,h => h
 | ⟨3,_,_,_,_⟩,⟨p,c,h1,h2⟩ => ⟨p,c,h1,h2.reg hg⟩
 | ⟨_ + 4,_,_,_,_⟩,⟨A,h1,h2⟩ => ⟨A,h1,h2.1,h2.2.1.reg hg,h2.2.2.1.reg hg,h2.2.2.2.1.reg hg,h2.2.2.2.2.reg hg⟩
def SeV (B:Nat) (w:World) (cs:Array Value) (D:SeD):Prop:=SeIn B w.heap.size w cs D
theorem SeIn.val {B g:Nat} {w:World} {cs:Array Value} {D:SeD} (h:SeIn B g w cs D):SeV B w cs D:=⟨h.1,fun k hk => ⟨(h.2 k hk).1.reg (Nat.le_refl _),(h.2 k hk).2⟩⟩
theorem SeV.at {B g:Nat} {w:World} {cs:Array Value} {D:SeD} (h:SeV B w cs D) (hg:w.heap.size ≤ g):SeIn B g w cs D:=⟨h.1,fun k hk => ⟨(h.2 k hk).1.reg hg,(h.2 k hk).2⟩⟩
theorem OwL.low {kd:IntKind} {B B' g g':Nat} {w:World} {p:Option Addr} {c:Nat} {xs:List Int} (h:OwL kd B g w p c xs) (hB:B' ≤ B) (hg:g' + 1 < B):OwL kd B' g' w p c xs:=⟨h.1,fun b o e hp => by
 obtain ⟨h1,h2,h3⟩:=h.2 b o e hp
 exact ⟨by omega,by omega,h3⟩⟩
theorem OwB.low {B B' g g':Nat} {w:World} {p:Option Addr} {c:Nat} {xs:List Bool} (h:OwB B g w p c xs) (hB:B' ≤ B) (hg:g' + 1 < B):OwB B' g' w p c xs:=⟨h.1,fun b o e hp => by
 obtain ⟨h1,h2,h3⟩:=h.2 b o e hp
 exact ⟨by omega,by omega,h3⟩⟩
theorem FIn.low {B B' g g':Nat} {w:World} {cs:Array Value} {k:Nat} (hB:B' ≤ B) (hg:g' + 1 < B):∀ {f:FV},FIn B g w cs k f → FIn B' g' w cs k f
 | ⟨0,_,_,_,_⟩,h => h
 | ⟨1,_,_,_,_⟩,h => h
 | ⟨2,_,_,_,_⟩,h => h
 | ⟨3,_,_,_,_⟩,⟨p,c,h1,h2⟩ => ⟨p,c,h1,h2.low hB hg⟩
 | ⟨_ + 4,_,_,_,_⟩,⟨A,h1,h2⟩ => ⟨A,h1,h2.1,h2.2.1.low hB hg,h2.2.2.1.low hB hg,h2.2.2.2.1.low hB hg,h2.2.2.2.2.low hB hg⟩
theorem SeIn.low {B B' g g':Nat} {w:World} {cs:Array Value} {D:SeD} (h:SeIn B g w cs D) (hB:B' ≤ B) (hg:g' + 1 < B):SeIn B' g' w cs D:=⟨h.1,fun k hk => ⟨(h.2 k hk).1.low hB hg,(h.2 k hk).2⟩⟩
def zeroC:Array Value:=#[.int .i64 0,.slice none 0 0,.bool false,.bool false,.bool false,.bool false,.bool false,.slice none 0 0,.bool false,.int .u32 0,.int .u32 0,.int .u32 0,.bool false,.bool false,.bool false,.int .i64 0,.int .i64 0,.bool false,.bool false,.int .i64 0,.slice none 0 0,.slice none 0 0,.slice none 0 0,.slice none 0 0,.int .i64 0,.bool false,.bool false,.int .i64 0,.int .i64 0,.int .i64 0,.bool false,.int .i64 0,.slice none 0 0,.slice none 0 0,.slice none 0 0,.slice none 0 0]
def zeroD:SeD:=fun k => match kindsK.getD k 0 with
 | 0 => .i 0
 | 1 => .u 0
 | 2 => .b false
 | 3 => .l []
 | _ => .t noTen
theorem zero_in (B g:Nat) (w:World):SeIn B g w zeroC zeroD:=by
 refine ⟨rfl,fun k hk => ?_⟩
 match k,hk with
 | 0,_ => exact ⟨⟨rfl,rfl⟩,rfl⟩
 | 1,_ => exact ⟨⟨none,0,rfl,OwL.nil _ _ _ _⟩,rfl⟩
 | 2,_ => exact ⟨rfl,rfl⟩
 | 3,_ => exact ⟨rfl,rfl⟩
 | 4,_ => exact ⟨rfl,rfl⟩
 | 5,_ => exact ⟨rfl,rfl⟩
 | 6,_ => exact ⟨rfl,rfl⟩
 | 7,_ => exact ⟨⟨none,0,rfl,OwL.nil _ _ _ _⟩,rfl⟩
 | 8,_ => exact ⟨rfl,rfl⟩
 | 9,_ => exact ⟨⟨rfl,rfl⟩,rfl⟩
 | 10,_ => exact ⟨⟨rfl,rfl⟩,rfl⟩
 | 11,_ => exact ⟨⟨rfl,rfl⟩,rfl⟩
 | 12,_ => exact ⟨rfl,rfl⟩
 | 13,_ => exact ⟨rfl,rfl⟩
 | 14,_ => exact ⟨rfl,rfl⟩
 | 15,_ => exact ⟨⟨rfl,rfl⟩,rfl⟩
 | 16,_ => exact ⟨⟨rfl,rfl⟩,rfl⟩
 | 17,_ => exact ⟨rfl,rfl⟩
 | 18,_ => exact ⟨rfl,rfl⟩
 | 19,_ => exact ⟨⟨rfl,rfl⟩,rfl⟩
 | 20,_ => exact ⟨⟨none,0,rfl,OwL.nil _ _ _ _⟩,rfl⟩
 | 21,_ => exact ⟨⟨none,0,rfl,OwL.nil _ _ _ _⟩,rfl⟩
 | 22,_ => exact ⟨⟨none,0,rfl,OwL.nil _ _ _ _⟩,rfl⟩
 | 23,_ => exact ⟨⟨none,0,rfl,OwL.nil _ _ _ _⟩,rfl⟩
 | 24,_ => exact ⟨⟨rfl,rfl⟩,rfl⟩
 | 25,_ => exact ⟨rfl,rfl⟩
 | 26,_ => exact ⟨rfl,rfl⟩
 | 27,_ => exact ⟨⟨rfl,rfl⟩,rfl⟩
 | 28,_ => exact ⟨⟨rfl,rfl⟩,rfl⟩
 | 29,_ => exact ⟨⟨rfl,rfl⟩,rfl⟩
 | 30,_ => exact ⟨rfl,rfl⟩
 | 31,_ => exact ⟨⟨noTA,⟨rfl,rfl,rfl,rfl,rfl⟩,rfl,OwL.nil _ _ _ _,OwL.nil _ _ _ _,OwL.nil _ _ _ _,OwB.nil _ _ _⟩,rfl⟩
 | n + 32,h => omega
def standF (D:SeD) (a:AtD):SeD:=if a.2.1 = 13 then updD D 31 (.t (1,[1],[0],[],[])) else if a.2.2.1 = 0 then D else updL D (wrL a.1 a.2.2.1)
def standD (l:List AtD):SeD:=l.foldl standF zeroD
theorem stand_take (l:List AtD) (n:Nat) (h:n < l.length):standD (l.take (n + 1)) = standF (standD (l.take n)) (l.getD n noAtD):=by
 unfold standD
 rw [List.take_add_one,List.foldl_append,List.getD_eq_getElem?_getD,List.getElem?_eq_getElem h]
 rfl
theorem stand13 {B g:Nat} {D:SeD} {w:World} {o:Obj} (H:SeB B g w D) (hB:B ≤ w.heap.size) :
  SeB B g ((((((((w.alloc o).alloc (.cells #[.int .i64 1] 3)).alloc (.cells #[.int .u32 0] 43)).setCell ⟨g,31,none⟩ (.int .i64 1)).setCell ⟨g,32,none⟩ (.slice (some ⟨w.heap.size + 1,0,none⟩) 1 1)).setCell ⟨g,33,none⟩ (.slice (some ⟨w.heap.size + 1 + 1,0,none⟩) 1 1)).setCell ⟨g,34,none⟩ (.slice none 0 0)).setCell ⟨g,35,none⟩ (.slice none 0 0)) (updD D 31 (.t (1,[1],[0],[],[]))) ∧ Stay g w ((((((((w.alloc o).alloc (.cells #[.int .i64 1] 3)).alloc (.cells #[.int .u32 0] 43)).setCell ⟨g,31,none⟩ (.int .i64 1)).setCell ⟨g,32,none⟩ (.slice (some ⟨w.heap.size + 1,0,none⟩) 1 1)).setCell ⟨g,33,none⟩ (.slice (some ⟨w.heap.size + 1 + 1,0,none⟩) 1 1)).setCell ⟨g,34,none⟩ (.slice none 0 0)).setCell ⟨g,35,none⟩ (.slice none 0 0)):=by
 have hg:=H.lt
 have hl:=bl_tr (bl_tr (al1p w o) (al1p _ (.cells #[.int .i64 1] 3))) (al1p _ (.cells #[.int .u32 0] 43))
 have o1:OwL .i64 B g (((w.alloc o).alloc (.cells #[.int .i64 1] 3)).alloc (.cells #[.int .u32 0] 43)) (some ⟨w.heap.size + 1,0,none⟩) 1 [1]:=(ow_one8 (t:=3) (w.alloc o) 1 (by simp) (by omega) (by omega) rfl).stay (Stay.below (al1p _ _) (by simp; omega))
 have o2:OwL .u32 B g (((w.alloc o).alloc (.cells #[.int .i64 1] 3)).alloc (.cells #[.int .u32 0] 43)) (some ⟨w.heap.size + 1 + 1,0,none⟩) 1 [0]:=ow_one8 (t:=43) ((w.alloc o).alloc (.cells #[.int .i64 1] 3)) 0 (by simp) (by omega) (by omega) rfl
 have h1:=(H.stay hl).putT (1,[1],[0],[],[]) ⟨some ⟨w.heap.size + 1,0,none⟩,1,some ⟨w.heap.size + 1 + 1,0,none⟩,1,none,0,none,0⟩ ⟨rfl,o1,o2,OwL.nil _ _ _ _,OwB.nil _ _ _⟩
 exact ⟨h1.1,(Stay.below hl (Nat.le_of_lt hg)).trans h1.2⟩
theorem cstand8_any (r:RoA) (w:World) (h:RoIn w r) (hB:∀ a ∈ r.ats,isB a.1 ∧ (Lit.int .i64 a.2.2.1).wf = true) (hl:r.ats.length ≤ 6) :
  Calls Tryz.prog 138 #[.agg (roCells r).toArray] w fun e w' => ∃ cs,e = .returned (.agg cs) ∧ SeV w.heap.size w' cs (standD r.ats) ∧ Below w.heap.size w w':=by
 obtain ⟨nm,ra,rb,rc,rd,l,q,k⟩:=r
 have A1:=hide (h:AdIn w q k l)
 have HB:=hide hB
 have nl:=(uh A1).1.1
 have nk:=(uh A1).1.2.1
 simp only at hl
 clear h hB
 obtain ⟨PR,hPR⟩:∃ f:Nat → SeD,f = fun n => standD (l.take n):=⟨_,rfl⟩
 have HE:Hid (standD l = PR l.length):=hide (by rw [hPR]; simp)
 have H0:Hid (PR 0 = zeroD):=hide (by rw [hPR]; rfl)
 have HN:Hid (∀ n,n < l.length → PR (n + 1) = standF (PR n) (l.getD n noAtD)):=hide (by rw [hPR]; exact fun n hn => stand_take l n hn)
 clear hPR
 rw [show RoA.ats ⟨nm,ra,rb,rc,rd,l,q,k⟩ = l from rfl,uh HE]
 clear HE
 unfold roCells strV
 obtain ⟨W,hW⟩:∃ W,W = ((w.alloc (.cells #[.string (strOfNums nm),.int .i64 ra,.int .i64 rb,.int .i64 rc,.int .i64 rd,.slice q l.length k] 142)).alloc (.cells zeroC 49)).alloc (.cells zeroC 49):=⟨_,rfl⟩
 have Z:Hid (W.heap.size = w.heap.size + 3):=hide (by rw [hW]; simp)
 have B0:Hid (Below w.heap.size w W):=hide (by rw [hW]; exact bl_tr (bl_tr (al1p _ _) (al1p _ _)) (al1p _ _))
 have R0:Hid (Box W (w.heap.size + 1) zeroC 49):=hide (by rw [hW]; have:=Box.new (w.alloc (.cells #[.string (strOfNums nm),.int .i64 ra,.int .i64 rb,.int .i64 rc,.int .i64 rd,.slice q l.length k] 142)) zeroC 49; simp at this; exact this.alloc _)
 have G0:Hid (SeB (w.heap.size + 3) (w.heap.size + 1 + 1) W (PR 0)):=hide (by
  rw [uh H0]
  refine ⟨zeroC,?_,zero_in _ _ _⟩
  rw [hW]
  have:=Box.new ((w.alloc (.cells #[.string (strOfNums nm),.int .i64 ra,.int .i64 rb,.int .i64 rc,.int .i64 rd,.slice q l.length k] 142)).alloc (.cells zeroC 49)) zeroC 49
  simp at this
  exact this)
 go_enter Tryz.func138,Tryz.ntmps138
 go_wp2_with fail
 have hW2:=hW
 unfold zeroC at hW2
 rw [← hW2]
 clear hW hW2
 obtain ⟨g,hg⟩:∃ g,w.heap.size + 1 + 1 = g:=⟨_,rfl⟩
 rw [hg] at G0 ⊢
 have HG:=hide hg
 clear hg
 go_loopw [9] (fun iv wr => ∃ n:Nat,iv = .int .i64 n ∧ n ≤ l.length ∧ Hid (SeB (w.heap.size + 3) g wr (PR n)) ∧ Hid (Stay g W wr)) (fun iv _ => l.length - (intOf iv).toNat)
 case atStart => exact ⟨0,rfl,by omega,G0,hide (Stay.refl _ _)⟩
 case round =>
  obtain ⟨n,rfl,hn,G,ST⟩:=hrel
  have zw:=uh Z
  have zg:=uh HG
  have zr:=(uh ST).1.size
  have BW:Hid (Below w.heap.size w wr):=hide (bl_tr7 (uh B0) (bl_mono7 (uh ST).1 (by omega)))
  by_cases hlt:n < l.length
  ·have hi:(n:Int) < (l.length:Int):=by omega
   have hp0:0 < l.length:=by omega
   have A2:=(uh A1).kept (Kept.below (uh BW))
   obtain ⟨b,o,rfl,hb,hc⟩:=A2.1.lies hp0
   clear A2
   have k0:wr.cell? ⟨b,o + n * 4,none⟩ = some (strV (l.getD n noAtD).1):=hc n hlt 0 _ rfl
   have k1:wr.cell? ⟨b,o + n * 4 + 1,none⟩ = some (.int .i64 (l.getD n noAtD).2.1):=hc n hlt 1 _ rfl
   have k2:wr.cell? ⟨b,o + n * 4 + 2,none⟩ = some (.int .i64 (l.getD n noAtD).2.2.1):=hc n hlt 2 _ rfl
   have k3:wr.cell? ⟨b,o + n * 4 + 3,none⟩ = some (.int .i64 (l.getD n noAtD).2.2.2):=hc n hlt 3 _ rfl
   have HX:=hide (uh HN n hlt)
   have HI:=hide (uh HB _ (getD_mem7 (z:=noAtD) hlt))
   generalize l.getD n noAtD = a at k0 k1 k2 k3 HX HI
   obtain ⟨s0,a1,a2,a3⟩:=a
   simp only at k0 k1 k2 k3 HI
   unfold strV at k0
   unfold standF at HX
   simp only at HX
   generalize PR n = D at G HX
   have gl:=(uh G).lt
   have HZR:=hide (show w.heap.size + 3 ≤ wr.heap.size by omega)
   clear hc zw zr zg
   by_cases h13:a1 = 13
   ·subst h13
    rw [if_pos rfl] at HX
    have G3:=(uh G).stay (bl_tr (bl_tr (al1p wr (.cells #[.string (strOfNums s0),.int .i64 13,.int .i64 a2,.int .i64 a3] 180)) (al1p _ (.cells #[.int .i64 1] 3))) (al1p _ (.cells #[.int .u32 0] 43)))
    obtain ⟨⟨v31,c31⟩,f31⟩:=G3.facts 31 (by decide)
    obtain ⟨⟨v32,c32⟩,f32⟩:=G3.facts 32 (by decide)
    obtain ⟨⟨v33,c33⟩,f33⟩:=G3.facts 33 (by decide)
    obtain ⟨⟨v34,c34⟩,f34⟩:=G3.facts 34 (by decide)
    obtain ⟨⟨v35,c35⟩,f35⟩:=G3.facts 35 (by decide)
    have gl3:=G3.lt
    clear G3
    have hy:=stand13 (o:=.cells #[.string (strOfNums s0),.int .i64 13,.int .i64 a2,.int .i64 a3] 180) (uh G) (uh HZR)
    rw [← uh HX] at hy
    have HY:=hide hy
    clear hy
    go_wp2_with fail
    go_roundw
    case rel => exact ⟨n + 1,by go_num,by omega,hide (uh HY).1,hide ((uh ST).trans (uh HY).2)⟩
    case measure => simp [intOf]; omega
   ·rw [if_neg h13] at HX
    have t13:(a1 == 13) = false:=by simp [h13]
    by_cases h0:a2 = 0
    ·subst h0
     rw [if_pos rfl] at HX
     clear h13
     go_wp2_with fail
     go_roundw
     case rel => exact ⟨n + 1,by go_num,by omega,hide (by rw [uh HX]; exact (uh G).stay (al1p _ _)),hide ((uh ST).trans (Stay.below (al1p _ _) (by omega)))⟩
     case measure => simp [intOf]; omega
    ·rw [if_neg h0] at HX
     have t0:(a2 != 0) = true:=by simp [h0]
     clear h13 h0
     go_wp2_with fail
     refine (cwrite8_any s0 a1 a2 a3 a2 (w.heap.size + 3) g D _ ((uh G).stay (al1p _ _)) (uh HI).1 (uh HI).2 (by have:=uh HZR; have:=uh HG; simp; omega)).mono ?_
     rintro e w4 ⟨rfl,s4,y4⟩
     have S4:=hide s4
     have Y4:=hide y4
     clear s4 y4
     go_wp2_with fail
     go_roundw
     case rel => exact ⟨n + 1,by go_num,by omega,hide (by rw [uh HX]; exact uh S4),hide ((uh ST).trans ((Stay.below (al1p _ _) (by have:=uh HZR; have:=uh HG; omega)).trans (uh Y4)))⟩
     case measure => simp [intOf]; omega
  ·have hi:¬ (n:Int) < (l.length:Int):=by omega
   have en:PR n = PR l.length:=by rw [show n = l.length by omega]
   rw [en] at G
   clear en
   obtain ⟨cs,hcs,hin⟩:=uh G
   have CS:=hide hcs
   have IN:=hide hin
   have R1:Hid (Box wr (w.heap.size + 1) zeroC 49):=hide (((uh ST).block (by omega) (by omega)).trans (uh R0))
   clear hcs hin G
   go_wp2_with (first | (refine wpList_load8 rfl _ rfl rfl (uh CS) (uh IN).1 ?_) | (refine wpList_store8 rfl _ _ rfl rfl rfl (uh R1) (uh IN).1 rfl (uh IN).ones ?_; intro w5 b5 s5 _; have B5:=hide b5; have S5:=hide s5; clear b5 s5))
   refine bodyPost_ret (results_se1 rfl rfl (uh B5) (uh IN).1) rfl ⟨cs,rfl,?_,?_⟩
   ·exact (((uh IN).low (B':=w.heap.size) (g':=w.heap.size + 1) (by omega) (by omega)).stay (uh S5)).val
   ·exact bl_tr7 (uh BW) (bl_mono7 (uh S5).1 (by omega))
end Go.Proofs.YtbmmcbagdomonaaGreat
