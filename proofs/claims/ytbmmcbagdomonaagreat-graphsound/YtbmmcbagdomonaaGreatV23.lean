import Derived.Deep.RegionWith
import Derived.Deep.RegionHeld3
import Derived.Deep.QuietTactic
import Derived.BigQuiet
import Derived.Test.YtbmmcbagdomonaaGreatV02
import Derived.Test.YtbmmcbagdomonaaGreatV12
import Derived.Test.YtbmmcbagdomonaaGreatV22
set_option maxRecDepth 100000
set_option maxHeartbeats 40000000
namespace Go.Proofs.YtbmmcbagdomonaaGreat
open Go.RowKit
set_option linter.unusedVariables false
set_option linter.unusedSimpArgs false
def i64c (x:Int):List Value:=[.int .i64 x]
theorem i64Wd:Wd 1 i64c:=⟨by decide,fun _ => rfl,fun a u hu => by simp [i64c] at hu; subst hu; rfl⟩
theorem own_i64 {t:TypeId} {w w':World} {v:Value} {l:List Int} (h:OwnR t 1 i64c w w' v l):OwnG t (Value.int .i64) w w' v l:=by
 obtain ⟨h1,h2⟩:=h
 rw [show l.flatMap i64c = l.map (Value.int .i64) from flat_one _ l] at h1
 exact ⟨h1,h2⟩
theorem Mrow.stay {β:Type} {t:TypeId} {cells:β → List Value} {g b:Nat} {w w':World} {xs:List β} (h:Mrow t cells w b xs) (s:Stay g w w') (hb:b ≠ g):Mrow t cells w' b xs:=(s.block hb (lt_of_block h)).trans h
theorem str_list (s:Str):(strOfNums s).toList = s.map fun n => UInt8.ofNat n.toNat:=by
 rw [ByteArray.toList_eq,strOfNums_data]
theorem rsame7_any (p q:Option Addr) (cap cap':Nat) (xs ys:List Int) (w:World) (h1:Ints .i64 w p cap xs) (h2:Ints .i64 w q cap' ys) :
  Calls Tryz.prog 19 #[.slice p xs.length cap,.slice q ys.length cap'] w fun e w' => e = .returned (.bool (decide (xs = ys))) ∧ Below w.heap.size w w':=by
 have hl1:=h1.len
 have hl2:=h2.len
 have H1:=hide h1
 have H2:=hide h2
 clear h1 h2
 by_cases hl:xs.length = ys.length
 ·have hli:((xs.length:Int) == (ys.length:Int)) = true:=by simp [hl]
  have HL:=hide hl
  clear hl
  go_enter Tryz.func19,Tryz.ntmps19
  go_wp2_with fail
  go_loopw [5] (fun iv wr => ∃ n:Nat,iv = .int .i64 n ∧ n ≤ xs.length ∧ Hid (xs.take n = ys.take n) ∧ ∃ m,wr = w.drewN m) (fun iv _ => xs.length - (intOf iv).toNat)
  case atStart => exact ⟨0,rfl,by omega,hide (by simp),0,rfl⟩
  case round =>
   obtain ⟨n,rfl,hn,HT,m,rfl⟩:=hrel
   by_cases hlt:n < xs.length
   ·have hlt2:n < ys.length:=by rw [← uh HL]; exact hlt
    obtain ⟨b,o,rfl,hb,hc⟩:=(uh H1).lies (by omega)
    obtain ⟨b',o',rfl,hb',hc'⟩:=(uh H2).lies (by omega)
    have hi:(n:Int) < (xs.length:Int):=by omega
    have hi2:(n:Int) < (ys.length:Int):=by omega
    have c1:=hc n hlt
    have c2:=hc' n hlt2
    have t1:xs.take (n + 1) = xs.take n ++ [xs.getD n 0]:=by rw [List.take_add_one]; simp [List.getElem?_eq_getElem hlt]
    have t2:ys.take (n + 1) = ys.take n ++ [ys.getD n 0]:=by rw [List.take_add_one]; simp [List.getElem?_eq_getElem hlt2]
    have T1:=hide t1
    have T2:=hide t2
    clear hc hc' t1 t2 hlt2
    generalize xs.getD n 0 = x at c1 T1
    generalize ys.getD n 0 = y at c2 T2
    by_cases hxy:x = y
    ·subst hxy
     go_wp2_with fail
     go_quiet (fail)
     go_wp2_with fail
     go_roundw
     case rel => exact ⟨n + 1,by go_num,by omega,hide (by rw [uh T1,uh T2,uh HT]),_,rfl⟩
     case measure => simp [intOf]; omega
    ·have hne:(x == y) = false:=by simp [hxy]
     have hneq:¬ xs = ys:=fun h => by
      have a:=uh T1; have b:=uh T2
      rw [h] at a; rw [a] at b
      have:=List.append_inj_right b (by rw [← uh HT,h])
      simp at this; exact hxy this
     have HN:=hide hneq
     clear hneq hxy
     go_wp2_with fail
     go_quiet (fail)
     go_wp2_with fail
     go_ret
     exact ⟨ret_bool (by simp [uh HN]),bw_drew (bw_drew (Below.refl _ _) _) _⟩
   ·have hi:¬ (n:Int) < (xs.length:Int):=by omega
    have en:n = xs.length:=by omega
    have he:xs = ys:=by
     have:=uh HT
     rw [en,List.take_length,List.take_of_length_le (by rw [uh HL]; exact Nat.le_refl _)] at this
     exact this
    have HE:=hide he
    clear he
    go_wp2_with fail
    go_ret
    exact ⟨ret_bool (by simp [uh HE]),bw_drew (Below.refl _ _) _⟩
 ·have hli:((xs.length:Int) == (ys.length:Int)) = false:=by simp; omega
  have hne:¬ xs = ys:=fun h => hl (by rw [h])
  have HN:=hide hne
  clear hne hl
  go_enter Tryz.func19,Tryz.ntmps19
  go_wp2_with fail
  go_ret
  exact ⟨ret_bool (by simp [uh HN]),Below.refl _ _⟩
theorem str_ne {a b:Str} (ha:isB a) (hb:isB b) (h:¬ a = b):((strOfNums a).toList == (strOfNums b).toList) = false:=by
 rw [beq_eq_false_iff_ne]
 intro e
 refine h (str_inj ha hb ?_)
 rw [str_list,str_list] at e
 unfold strOfNums
 rw [e]
theorem str_list8 (s:Str):(strOfNums s).toList = s.map fun n => UInt8.ofNat n.toNat:=by
 rw [show (strOfNums s).toList = (strOfNums s).data.toList from by rw [ByteArray.toList_eq]]
 rw [str_data]
theorem str_eq8 {a b:Str} (ha:isB a) (hb:isB b):((strOfNums a).toList == (strOfNums b).toList) = decide (a = b):=by
 by_cases h:a = b
 ·subst h; simp
 ·rw [str_ne ha hb h]; simp [h]
theorem cfind8_any (op:Int) (w:World):Calls Tryz.prog 102 #[.int .i64 op] w fun e w' => ∃ r:RoA,e = .returned (.agg (roCells r).toArray) ∧ RoIn w' r ∧ r.d = rowT op ∧ Below w.heap.size w w':=by
 by_cases h:1 ≤ op ∧ op ≤ 80
 ·obtain ⟨n,hn⟩:∃ n:Nat,op = (n:Int) + 1:=⟨(op - 1).toNat,by omega⟩
  subst hn
  exact cfind8_yes n w (by omega)
 ·refine (cfind8_no op w (by omega)).mono ?_
  rintro e v ⟨rfl,hb⟩
  exact ⟨noRoA,rfl,AdIn.nil _,by unfold rowT; rw [if_neg h]; rfl,hb⟩
def numT (nm:Str):Int:=1 + idxI (fun r:RowD => decide (r.1 = nm)) tabT
theorem idxI_map {α β:Type} (f:α → β) (P:β → Bool):∀ l:List α,idxI P (l.map f) = idxI (fun x => P (f x)) l
 | [] => rfl
 | x :: r => by simp only [List.map_cons,idxI,idxI_map f P r]
theorem tab_isB:∀ x ∈ tabT,isB x.1 ∧ ∀ a ∈ x.2.2.2.2.2,isB a.1:=by
 have h:tabT.all (fun x => x.1.all (fun c => decide (0 ≤ c) && decide (c < 256)) && x.2.2.2.2.2.all (fun a => a.1.all (fun c => decide (0 ≤ c) && decide (c < 256)))) = true:=by kernel_rfl
 intro x hx
 have:=List.all_eq_true.1 h x hx
 simp only [Bool.and_eq_true,List.all_eq_true,decide_eq_true_eq] at this
 exact ⟨fun c hc => this.1 c hc,fun a ha c hc => this.2 a ha c hc⟩
theorem cnum1_any (r:RoA) (nm:Str) (g:Nat) (w:World) (hr:isB r.nm) (hn:isB nm) (hg:g < w.heap.size) (hc:w.cell? ⟨g,0,none⟩ = some (strV nm)) :
  Calls Tryz.prog 136 (#[.agg (roCells r).toArray] ++ #[.pointer (some ⟨g,0,none⟩)]) w fun e w' => e = .returned (.bool (decide (r.nm = nm))) ∧ Below w.heap.size w w':=by
 have E:=hide (str_eq8 hr hn)
 generalize decide (r.nm = nm) = D at E ⊢
 unfold roCells strV
 unfold strV at hc
 rw [show (#[Value.agg [Value.string (strOfNums r.nm),.int .i64 r.a,.int .i64 r.b,.int .i64 r.c,.int .i64 r.d',.slice r.q r.ats.length r.k].toArray] ++ #[Value.pointer (some ⟨g,0,none⟩)]) = #[Value.agg #[Value.string (strOfNums r.nm),.int .i64 r.a,.int .i64 r.b,.int .i64 r.c,.int .i64 r.d',.slice r.q r.ats.length r.k],Value.pointer (some ⟨g,0,none⟩)] from rfl]
 go_enter Tryz.func136,Tryz.ntmps136
 go_wp2_with fail
 go_ret
 exact ⟨ret_bool (uh E),al1p _ _⟩
theorem cnumber8_any (nm:Str) (w:World) (hn:isB nm):Calls Tryz.prog 101 #[strV nm] w fun e w' => e = .returned (.int .i64 (numT nm)) ∧ Below w.heap.size w w':=by
 have HN:=hide hn
 have G0:Hid (-1 ≤ idxI (fun r:RowD => decide (r.1 = nm)) tabT ∧ idxI (fun r:RowD => decide (r.1 = nm)) tabT ≤ 80):=hide ⟨idxI_ge _ _,by
  by_cases h:0 ≤ idxI (fun r:RowD => decide (r.1 = nm)) tabT
  ·obtain ⟨n,e,h1,_⟩:=idxI_lt _ noRowD _ h
   have:tabT.length = 80:=rfl
   omega
  ·omega⟩
 obtain ⟨I,hI⟩:∃ I,idxI (fun r:RowD => decide (r.1 = nm)) tabT = I:=⟨_,rfl⟩
 unfold numT
 rw [hI] at G0 ⊢
 have HI:=hide hI
 unfold strV
 clear hn hI
 go_enter Tryz.func101,Tryz.ntmps101
 go_wp2_with fail
 refine (crows8_any _).mono ?_
 rintro e w1 ⟨p,c,L,rfl,hl,ht,hb⟩
 have X:=hide ((Box.new w #[.string (strOfNums nm)] 9).below hb)
 have B:=hide (bl_tr (al1p _ _) hb)
 have IX:=hide (cidxRow_any 136 (ent_of Tryz.func136 (by kernel_rfl) rfl) #[.pointer (some ⟨w.heap.size,0,none⟩)] (fun r => decide (r.nm = nm)) p c L w1 ht.1 (fun v hv x hx =>
  cnum1_any x nm w.heap.size v (tab_isB _ (by rw [← ht.2.2]; exact List.mem_map.2 ⟨x,hx,rfl⟩)).1 (uh HN) ((uh X).below hv).lt (by rw [((uh X).below hv).cell]; rfl)))
 have e1:idxI (fun r:RoA => decide (r.nm = nm)) L = idxI (fun r:RowD => decide (r.1 = nm)) tabT:=by
  rw [← ht.2.2,idxI_map]; rfl
 rw [e1,hl,uh HI] at IX
 obtain ⟨i1,i2⟩:=uh G0
 clear ht hb e1 G0 HN X hl HI
 go_wp2_with fail
 refine (uh IX).mono ?_
 rintro e w2 ⟨rfl,hb⟩
 replace B:=hide (bl_tr (uh B) hb)
 clear hb IX
 go_wp2_with fail
 go_ret
 exact ⟨rfl,uh B⟩
theorem tab_len:∀ x ∈ tabT,x.2.2.2.2.2.length ≤ 6:=by
 have h:tabT.all (fun x => decide (x.2.2.2.2.2.length ≤ 6)) = true:=by kernel_rfl
 intro x hx
 simpa using List.all_eq_true.1 h x hx
theorem rowT_mem (op:Int):rowT op = noRowD ∨ rowT op ∈ tabT:=by
 unfold rowT
 by_cases h:1 ≤ op ∧ op ≤ 80
 ·rw [if_pos h]
  have e:tabT.length = 80:=rfl
  exact .inr (getD_mem7 (by omega))
 ·rw [if_neg h]; exact .inl rfl
theorem rowT_len (op:Int):(rowT op).2.2.2.2.2.length ≤ 6:=by
 rcases rowT_mem op with h | h
 ·rw [h]; simp [noRowD]
 ·exact tab_len _ h
def OwL (kd:IntKind) (B g:Nat) (w:World) (p:Option Addr) (c:Nat) (xs:List Int):Prop :=
 Ints kd w p c xs ∧ ∀ b o,p = some ⟨b,o,none⟩ → 0 < xs.length → B ≤ b ∧ (b ≠ g ∧ b ≠ g + 1) ∧ ∀ i,i < xs.length → w.frozen? ⟨b,o + i,none⟩ = false
def OwB (B g:Nat) (w:World) (p:Option Addr) (c:Nat) (xs:List Bool):Prop :=
 Ls Value.bool w p c xs ∧ ∀ b o,p = some ⟨b,o,none⟩ → 0 < xs.length → B ≤ b ∧ (b ≠ g ∧ b ≠ g + 1) ∧ ∀ i,i < xs.length → w.frozen? ⟨b,o + i,none⟩ = false
theorem Ls.stay8 {α:Type} [Inhabited α] {f:α → Value} {g:Nat} {w w':World} {p:Option Addr} {c:Nat} {xs:List α} (h:Ls f w p c xs) (hn:∀ b o,p = some ⟨b,o,none⟩ → 0 < xs.length → b ≠ g) (hs:Stay g w w'):Ls f w' p c xs:=by
 obtain ⟨h1,h2,h4,h5⟩:=h
 refine ⟨h1,h2,fun hp => ?_,h5⟩
 obtain ⟨b,o,e,g1,g2⟩:=h4 hp
 exact ⟨b,o,e,Nat.lt_of_lt_of_le g1 hs.1.size,fun i hi => (World.cell?_of_block (w:=w) (hs.block (hn b o e hp) g1)).trans (g2 i hi)⟩
theorem OwL.stay {kd:IntKind} {B g:Nat} {w w':World} {p:Option Addr} {c:Nat} {xs:List Int} (h:OwL kd B g w p c xs) (hs:Stay g w w'):OwL kd B g w' p c xs:=by
 refine ⟨(h.1.ls.stay8 (fun b o e hp => (h.2 b o e hp).2.1.1) hs).ints h.1.2.2.1,fun b o e hp => ?_⟩
 obtain ⟨h1,h2,h3⟩:=h.2 b o e hp
 obtain ⟨b',o',e',hb,_⟩:=h.1.ls.lies hp
 have e2:=e
 rw [e] at e'
 simp only [Option.some.injEq,Addr.mk.injEq] at e'
 obtain ⟨rfl,rfl,_⟩:=e'
 exact ⟨h1,h2,fun i hi => (World.frozen?_of_block (w:=w) (hs.block h2.1 hb)).trans (h3 i hi)⟩
theorem OwB.stay {B g:Nat} {w w':World} {p:Option Addr} {c:Nat} {xs:List Bool} (h:OwB B g w p c xs) (hs:Stay g w w'):OwB B g w' p c xs:=by
 refine ⟨h.1.stay8 (fun b o e hp => (h.2 b o e hp).2.1.1) hs,fun b o e hp => ?_⟩
 obtain ⟨h1,h2,h3⟩:=h.2 b o e hp
 obtain ⟨b',o',e',hb,_⟩:=h.1.lies hp
 have e2:=e
 rw [e] at e'
 simp only [Option.some.injEq,Addr.mk.injEq] at e'
 obtain ⟨rfl,rfl,_⟩:=e'
 exact ⟨h1,h2,fun i hi => (World.frozen?_of_block (w:=w) (hs.block h2.1 hb)).trans (h3 i hi)⟩
theorem OwL.nil (kd:IntKind) (B g:Nat) (w:World):OwL kd B g w none 0 []:=⟨⟨by simp,by omega,by simp,by simp,fun _ => rfl⟩,fun b o e => by cases e⟩
theorem OwB.nil (B g:Nat) (w:World):OwB B g w none 0 []:=⟨Ls.nil w,fun b o e => by cases e⟩
theorem OwL.stay1 {kd:IntKind} {B g:Nat} {w w':World} {p:Option Addr} {c:Nat} {xs:List Int} (h:OwL kd B g w p c xs) (hs:Stay (g + 1) w w'):OwL kd B g w' p c xs:=by
 refine ⟨(h.1.ls.stay8 (fun b o e hp => (h.2 b o e hp).2.1.2) hs).ints h.1.2.2.1,fun b o e hp => ?_⟩
 obtain ⟨h1,h2,h3⟩:=h.2 b o e hp
 obtain ⟨b',o',e',hb,_⟩:=h.1.ls.lies hp
 have e2:=e
 rw [e] at e'
 simp only [Option.some.injEq,Addr.mk.injEq] at e'
 obtain ⟨rfl,rfl,_⟩:=e'
 exact ⟨h1,h2,fun i hi => (World.frozen?_of_block (w:=w) (hs.block h2.2 hb)).trans (h3 i hi)⟩
theorem OwB.stay1 {B g:Nat} {w w':World} {p:Option Addr} {c:Nat} {xs:List Bool} (h:OwB B g w p c xs) (hs:Stay (g + 1) w w'):OwB B g w' p c xs:=by
 refine ⟨h.1.stay8 (fun b o e hp => (h.2 b o e hp).2.1.2) hs,fun b o e hp => ?_⟩
 obtain ⟨h1,h2,h3⟩:=h.2 b o e hp
 obtain ⟨b',o',e',hb,_⟩:=h.1.lies hp
 have e2:=e
 rw [e] at e'
 simp only [Option.some.injEq,Addr.mk.injEq] at e'
 obtain ⟨rfl,rfl,_⟩:=e'
 exact ⟨h1,h2,fun i hi => (World.frozen?_of_block (w:=w) (hs.block h2.2 hb)).trans (h3 i hi)⟩
def TenO (B g:Nat) (w:World) (T:Ten) (A:TA):Prop :=
 (Lit.int .i64 T.1).wf = true ∧ OwL .i64 B g w A.pd A.cd T.2.1 ∧ OwL .u32 B g w A.pf A.cf T.2.2.1 ∧ OwL .i64 B g w A.pi A.ci T.2.2.2.1 ∧ OwB B g w A.pb A.cb T.2.2.2.2
theorem TenO.stay {B g:Nat} {w w':World} {T:Ten} {A:TA} (h:TenO B g w T A) (hs:Stay g w w'):TenO B g w' T A:=⟨h.1,h.2.1.stay hs,h.2.2.1.stay hs,h.2.2.2.1.stay hs,h.2.2.2.2.stay hs⟩
theorem TenO.inn {B g:Nat} {w:World} {T:Ten} {A:TA} (h:TenO B g w T A):TenIn w T A:=⟨h.1,h.2.1.1,h.2.2.1.1,h.2.2.2.1.1,h.2.2.2.2.1⟩
structure FV where
 k:Nat
 x:Int
 y:Bool
 xs:List Int
 T:Ten
def FV.i (x:Int):FV:=⟨0,x,false,[],noTen⟩
def FV.u (x:Int):FV:=⟨1,x,false,[],noTen⟩
def FV.b (x:Bool):FV:=⟨2,0,x,[],noTen⟩
def FV.l (xs:List Int):FV:=⟨3,0,false,xs,noTen⟩
def FV.t (T:Ten):FV:=⟨4,0,false,[],T⟩
abbrev SeD:=Nat → FV
def FIn (B g:Nat) (w:World) (cs:Array Value) (k:Nat):FV → Prop
 | ⟨0,x,_,_,_⟩ => cs[k]? = some (.int .i64 x) ∧ (Lit.int .i64 x).wf = true
 | ⟨1,x,_,_,_⟩ => cs[k]? = some (.int .u32 x) ∧ (Lit.int .u32 x).wf = true
 | ⟨2,_,x,_,_⟩ => cs[k]? = some (.bool x)
 | ⟨3,_,_,xs,_⟩ => ∃ p c,cs[k]? = some (.slice p xs.length c) ∧ OwL .i64 B g w p c xs
 | ⟨_ + 4,_,_,_,T⟩ => ∃ A:TA,(cs[k]? = some (.int .i64 T.1) ∧ cs[k + 1]? = some (.slice A.pd T.2.1.length A.cd) ∧ cs[k + 2]? = some (.slice A.pf T.2.2.1.length A.cf) ∧ cs[k + 3]? = some (.slice A.pi T.2.2.2.1.length A.ci) ∧ cs[k + 4]? = some (.slice A.pb T.2.2.2.2.length A.cb)) ∧ TenO B g w T A
def kindF:FV → Nat
 | ⟨0,_,_,_,_⟩ => 0
 | ⟨1,_,_,_,_⟩ => 1
 | ⟨2,_,_,_,_⟩ => 2
 | ⟨3,_,_,_,_⟩ => 3
 | ⟨_ + 4,_,_,_,_⟩ => 4
def kindsK:List Nat:=[0,3,2,2,2,2,2,3,2,1,1,1,2,2,2,0,0,2,2,0,3,3,3,3,0,2,2,0,0,0,2,4]
def SeIn (B g:Nat) (w:World) (cs:Array Value) (D:SeD):Prop:=cs.size = 36 ∧ ∀ k,k ≤ 31 → FIn B g w cs k (D k) ∧ kindF (D k) = kindsK.getD k 0
theorem FIn.stay {B g:Nat} {w w':World} {cs:Array Value} {k:Nat}:∀ {f:FV},FIn B g w cs k f → Stay g w w' → FIn B g w' cs k f
 | ⟨0,_,_,_,_⟩,h,_ => h
 | ⟨1,_,_,_,_⟩,h,_ => h
 | ⟨2,_,_,_,_⟩,h,_ => h
 | ⟨3,_,_,_,_⟩,⟨p,c,h1,h2⟩,hs => ⟨p,c,h1,h2.stay hs⟩
 | ⟨_ + 4,_,_,_,_⟩,⟨A,h1,h2⟩,hs => ⟨A,h1,h2.stay hs⟩
theorem FIn.stay1 {B g:Nat} {w w':World} {cs:Array Value} {k:Nat}:∀ {f:FV},FIn B g w cs k f → Stay (g + 1) w w' → FIn B g w' cs k f
 | ⟨0,_,_,_,_⟩,h,_ => h
 | ⟨1,_,_,_,_⟩,h,_ => h
 | ⟨2,_,_,_,_⟩,h,_ => h
 | ⟨3,_,_,_,_⟩,⟨p,c,h1,h2⟩,hs => ⟨p,c,h1,h2.stay1 hs⟩
 | ⟨_ + 4,_,_,_,_⟩,⟨A,h1,h2⟩,hs => ⟨A,h1,h2.1,h2.2.1.stay1 hs,h2.2.2.1.stay1 hs,h2.2.2.2.1.stay1 hs,h2.2.2.2.2.stay1 hs⟩
theorem SeIn.stay {B g:Nat} {w w':World} {cs:Array Value} {D:SeD} (h:SeIn B g w cs D) (hs:Stay g w w'):SeIn B g w' cs D:=⟨h.1,fun k hk => ⟨(h.2 k hk).1.stay hs,(h.2 k hk).2⟩⟩
def updD (D:SeD) (k:Nat) (f:FV):SeD:=fun j => if j = k then f else D j
theorem set_other {cs:Array Value} {k j:Nat} (h:j ≠ k) (v:Value):(cs.setIfInBounds k v)[j]? = cs[j]?:=by
 rw [Array.getElem?_setIfInBounds]
 rw [if_neg (fun e => h e.symm)]
theorem set_same {cs:Array Value} {k:Nat} (h:k < cs.size) (v:Value):(cs.setIfInBounds k v)[k]? = some v:=by
 rw [Array.getElem?_setIfInBounds]
 simp [h]
theorem FIn.other {B g:Nat} {w:World} {cs:Array Value} {k j:Nat} (hk:k ≤ 30) (hj:j ≤ 31) (hne:j ≠ k) (v:Value):∀ {f:FV},(kindF f = 4 → j = 31) → FIn B g w cs j f → FIn B g w (cs.setIfInBounds k v) j f
 | ⟨0,_,_,_,_⟩,_,h => ⟨(set_other hne v).trans h.1,h.2⟩
 | ⟨1,_,_,_,_⟩,_,h => ⟨(set_other hne v).trans h.1,h.2⟩
 | ⟨2,_,_,_,_⟩,_,h => (set_other hne v).trans h
 | ⟨3,_,_,_,_⟩,_,⟨p,c,h1,h2⟩ => ⟨p,c,(set_other hne v).trans h1,h2⟩
 | ⟨_ + 4,_,_,_,_⟩,h4,⟨A,⟨h0,h1,h2,h3,h5⟩,h6⟩ => by
   have:=h4 rfl
   subst this
   exact ⟨A,⟨(set_other hne v).trans h0,(set_other (by omega) v).trans h1,(set_other (by omega) v).trans h2,(set_other (by omega) v).trans h3,(set_other (by omega) v).trans h5⟩,h6⟩
theorem kind_31:∀ j,j ≤ 31 → kindsK.getD j 0 = 4 → j = 31:=by decide
theorem SeIn.set {B g:Nat} {w:World} {cs:Array Value} {D:SeD} {k:Nat} {f:FV} {v:Value} (h:SeIn B g w cs D) (hk:k ≤ 30) (hv:FIn B g w (cs.setIfInBounds k v) k f) (hf:kindF f = kindsK.getD k 0):SeIn B g w (cs.setIfInBounds k v) (updD D k f):=by
 refine ⟨by simp [h.1],fun j hj => ?_⟩
 unfold updD
 by_cases e:j = k
 ·subst e; rw [if_pos rfl]; exact ⟨hv,hf⟩
 ·rw [if_neg e]
  exact ⟨FIn.other hk hj e v (fun h4 => kind_31 j hj ((h.2 j hj).2.symm.trans h4)) (h.2 j hj).1,(h.2 j hj).2⟩
def set5 (cs:Array Value) (v0 v1 v2 v3 v4:Value):Array Value:=((((cs.setIfInBounds 31 v0).setIfInBounds 32 v1).setIfInBounds 33 v2).setIfInBounds 34 v3).setIfInBounds 35 v4
theorem set5_other {cs:Array Value} {j:Nat} (hj:j ≤ 30) (v0 v1 v2 v3 v4:Value):(set5 cs v0 v1 v2 v3 v4)[j]? = cs[j]?:=by
 unfold set5
 rw [set_other (by omega),set_other (by omega),set_other (by omega),set_other (by omega),set_other (by omega)]
theorem FIn.other5 {B g:Nat} {w:World} {cs:Array Value} {j:Nat} (hj:j ≤ 30) (v0 v1 v2 v3 v4:Value):∀ {f:FV},kindF f ≠ 4 → FIn B g w cs j f → FIn B g w (set5 cs v0 v1 v2 v3 v4) j f
 | ⟨0,_,_,_,_⟩,_,h => ⟨(set5_other hj _ _ _ _ _).trans h.1,h.2⟩
 | ⟨1,_,_,_,_⟩,_,h => ⟨(set5_other hj _ _ _ _ _).trans h.1,h.2⟩
 | ⟨2,_,_,_,_⟩,_,h => (set5_other hj _ _ _ _ _).trans h
 | ⟨3,_,_,_,_⟩,_,⟨p,c,h1,h2⟩ => ⟨p,c,(set5_other hj _ _ _ _ _).trans h1,h2⟩
 | ⟨_ + 4,_,_,_,_⟩,h,_ => absurd rfl h
theorem kind_30:∀ j,j ≤ 30 → kindsK.getD j 0 ≠ 4:=by decide
theorem SeIn.setT {B g:Nat} {w:World} {cs:Array Value} {D:SeD} {T:Ten} {A:TA} (h:SeIn B g w cs D) (hT:TenO B g w T A) :
  SeIn B g w (set5 cs (.int .i64 T.1) (.slice A.pd T.2.1.length A.cd) (.slice A.pf T.2.2.1.length A.cf) (.slice A.pi T.2.2.2.1.length A.ci) (.slice A.pb T.2.2.2.2.length A.cb)) (updD D 31 (.t T)):=by
 have hs:=h.1
 refine ⟨by simp [set5,hs],fun j hj => ?_⟩
 unfold updD
 by_cases e:j = 31
 ·subst e
  rw [if_pos rfl]
  refine ⟨⟨A,⟨?_,?_,?_,?_,?_⟩,hT⟩,rfl⟩
  ·unfold set5; rw [set_other (by omega),set_other (by omega),set_other (by omega),set_other (by omega),set_same (by omega)]
  ·unfold set5; rw [set_other (by omega),set_other (by omega),set_other (by omega),set_same (by simp; omega)]
  ·unfold set5; rw [set_other (by omega),set_other (by omega),set_same (by simp; omega)]
  ·unfold set5; rw [set_other (by omega),set_same (by simp; omega)]
  ·unfold set5; rw [set_same (by simp; omega)]
 ·rw [if_neg e]
  exact ⟨FIn.other5 (by omega) _ _ _ _ _ (by rw [(h.2 j hj).2]; exact kind_30 j (by omega)) (h.2 j hj).1,(h.2 j hj).2⟩
theorem Stay.set8 {g j:Nat} {w:World} (v:Value):Stay g w (w.setCell ⟨g,j,none⟩ v) :=
 ⟨(Below.refl g w).setCell (Nat.le_refl _) v,fun k h1 h2 => Below.heap_setCell w ⟨g,j,none⟩ v k (by simp; omega)⟩
theorem Box.some8 {w:World} {g:Nat} {cs:Array Value} {t:TypeId} (h:Box w g cs t) {k:Nat} (hk:k < cs.size):∃ v,w.cell? ⟨g,k,none⟩ = some v:=⟨cs[k],by rw [h.cell]; simp [hk]⟩
def SeB (B g:Nat) (w:World) (D:SeD):Prop:=∃ cs,Box w g cs 49 ∧ SeIn B g w cs D
theorem SeB.stay {B g:Nat} {w w':World} {D:SeD} (h:SeB B g w D) (hb:Below w.heap.size w w'):SeB B g w' D:=by
 obtain ⟨cs,h1,h2⟩:=h
 exact ⟨cs,h1.below hb,h2.stay (Stay.below hb (Nat.le_of_lt h1.lt))⟩
theorem SeB.stay1 {B g:Nat} {w w':World} {D:SeD} (h:SeB B g w D) (hb:Stay (g + 1) w w'):SeB B g w' D:=by
 obtain ⟨cs,h1,h2⟩:=h
 exact ⟨cs,(hb.block (by omega) h1.lt).trans h1,h2.1,fun k hk => ⟨(h2.2 k hk).1.stay1 hb,(h2.2 k hk).2⟩⟩
theorem SeB.lt {B g:Nat} {w:World} {D:SeD} (h:SeB B g w D):g < w.heap.size:=by obtain ⟨cs,h1,_⟩:=h; exact h1.lt
theorem SeB.facts {B g:Nat} {w:World} {D:SeD} (h:SeB B g w D) (k:Nat) (hk:k < 36):(∃ v,w.cell? ⟨g,k,none⟩ = some v) ∧ w.frozen? ⟨g,k,none⟩ = false:=by
 obtain ⟨cs,h1,h2⟩:=h
 exact ⟨h1.some8 (by rw [h2.1]; exact hk),h1.frozen k⟩
theorem SeB.put {B g:Nat} {w:World} {D:SeD} (h:SeB B g w D) {k:Nat} {f:FV} {v:Value} (hk:k ≤ 30) (hf:kindF f = kindsK.getD k 0) (hv:∀ cs:Array Value,cs.size = 36 → FIn B g (w.setCell ⟨g,k,none⟩ v) (cs.setIfInBounds k v) k f):SeB B g (w.setCell ⟨g,k,none⟩ v) (updD D k f) ∧ Stay g w (w.setCell ⟨g,k,none⟩ v):=by
 obtain ⟨cs,h1,h2⟩:=h
 exact ⟨⟨_,h1.same k v,(h2.stay (Stay.set8 v)).set hk (hv cs h2.1) hf⟩,Stay.set8 v⟩
theorem SeB.putI {B g:Nat} {w:World} {D:SeD} (h:SeB B g w D) (k:Nat) (x:Int) (hx:(Lit.int .i64 x).wf = true) (hk:k ≤ 30) (hf:kindsK.getD k 0 = 0):SeB B g (w.setCell ⟨g,k,none⟩ (.int .i64 x)) (updD D k (.i x)) ∧ Stay g w (w.setCell ⟨g,k,none⟩ (.int .i64 x)) :=
 h.put hk hf.symm (fun cs hs => ⟨set_same (by omega) _,hx⟩)
theorem SeB.putU {B g:Nat} {w:World} {D:SeD} (h:SeB B g w D) (k:Nat) (x:Int) (hx:(Lit.int .u32 x).wf = true) (hk:k ≤ 30) (hf:kindsK.getD k 0 = 1):SeB B g (w.setCell ⟨g,k,none⟩ (.int .u32 x)) (updD D k (.u x)) ∧ Stay g w (w.setCell ⟨g,k,none⟩ (.int .u32 x)) :=
 h.put hk hf.symm (fun cs hs => ⟨set_same (by omega) _,hx⟩)
theorem SeB.putB {B g:Nat} {w:World} {D:SeD} (h:SeB B g w D) (k:Nat) (x:Bool) (hk:k ≤ 30) (hf:kindsK.getD k 0 = 2):SeB B g (w.setCell ⟨g,k,none⟩ (.bool x)) (updD D k (.b x)) ∧ Stay g w (w.setCell ⟨g,k,none⟩ (.bool x)) :=
 h.put hk hf.symm (fun cs hs => set_same (by omega) _)
theorem SeB.putL {B g:Nat} {w:World} {D:SeD} (h:SeB B g w D) (k:Nat) (p:Option Addr) (c:Nat) (xs:List Int) (hx:OwL .i64 B g w p c xs) (hk:k ≤ 30) (hf:kindsK.getD k 0 = 3):SeB B g (w.setCell ⟨g,k,none⟩ (.slice p xs.length c)) (updD D k (.l xs)) ∧ Stay g w (w.setCell ⟨g,k,none⟩ (.slice p xs.length c)) :=
 h.put hk hf.symm (fun cs hs => ⟨p,c,set_same (by omega) _,hx.stay (Stay.set8 _)⟩)
theorem SeB.putT {B g:Nat} {w:World} {D:SeD} (h:SeB B g w D) (T:Ten) (A:TA) (hT:TenO B g w T A) :
  SeB B g (((((w.setCell ⟨g,31,none⟩ (.int .i64 T.1)).setCell ⟨g,32,none⟩ (.slice A.pd T.2.1.length A.cd)).setCell ⟨g,33,none⟩ (.slice A.pf T.2.2.1.length A.cf)).setCell ⟨g,34,none⟩ (.slice A.pi T.2.2.2.1.length A.ci)).setCell ⟨g,35,none⟩ (.slice A.pb T.2.2.2.2.length A.cb)) (updD D 31 (.t T)) ∧
   Stay g w (((((w.setCell ⟨g,31,none⟩ (.int .i64 T.1)).setCell ⟨g,32,none⟩ (.slice A.pd T.2.1.length A.cd)).setCell ⟨g,33,none⟩ (.slice A.pf T.2.2.1.length A.cf)).setCell ⟨g,34,none⟩ (.slice A.pi T.2.2.2.1.length A.ci)).setCell ⟨g,35,none⟩ (.slice A.pb T.2.2.2.2.length A.cb)):=by
 obtain ⟨cs,h1,h2⟩:=h
 have b0:=h1.same 31 (.int .i64 T.1)
 have b1:=b0.same 32 (.slice A.pd T.2.1.length A.cd)
 have b2:=b1.same 33 (.slice A.pf T.2.2.1.length A.cf)
 have b3:=b2.same 34 (.slice A.pi T.2.2.2.1.length A.ci)
 have b4:=b3.same 35 (.slice A.pb T.2.2.2.2.length A.cb)
 have s0:Stay g w (w.setCell ⟨g,31,none⟩ (.int .i64 T.1)):=Stay.set8 _
 have s1:=s0.trans (Stay.set8 (j:=32) (.slice A.pd T.2.1.length A.cd))
 have s2:=s1.trans (Stay.set8 (j:=33) (.slice A.pf T.2.2.1.length A.cf))
 have s3:=s2.trans (Stay.set8 (j:=34) (.slice A.pi T.2.2.2.1.length A.ci))
 have s4:=s3.trans (Stay.set8 (j:=35) (.slice A.pb T.2.2.2.2.length A.cb))
 exact ⟨⟨_,b4,(h2.stay s4).setT (hT.stay s4)⟩,s4⟩
end Go.Proofs.YtbmmcbagdomonaaGreat
