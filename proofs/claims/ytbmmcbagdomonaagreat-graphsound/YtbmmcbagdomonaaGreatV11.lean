import Derived.Test.YtbmmcbagdomonaaGreatV08
import Derived.Test.YtbmmcbagdomonaaGreatV09
import Derived.Test.YtbmmcbagdomonaaGreatV10
set_option maxRecDepth 100000
set_option maxHeartbeats 40000000
namespace Go.Proofs.YtbmmcbagdomonaaGreat
open Go.RowKit
set_option linter.unusedVariables false
set_option linter.unusedSimpArgs false
theorem own_room {β:Type} {k:Nat} {cells:β → List Value} {t:TypeId} {w:World} {z:Array Value} (n m cap:Nat) (hz:z.size = k) (hc:n + m = cap) (hm:cap ≤ maxLen) :
  OwnR t k cells w ((w.alloc (.cells (Builtin.zeroCells z n ++ Builtin.zeroCells z m) t)).drew) (.slice (some ⟨w.heap.size,0,none⟩) 0 cap) ([]:List β):=by
 refine ⟨⟨by simp,.inr ⟨w.heap.size,cap,_,rfl,Nat.le_refl _,heap_alloc_new w _,Nat.zero_le _,hm,?_,by simp⟩⟩,?_⟩
 ·rw [Array.size_append,size_zeroCells,size_zeroCells,hz,← Nat.add_mul,hc]
 ·exact Below.drew (al1p w _)
theorem cgrow_any (w:World):Calls Tryz.prog 173 #[.slice none 0 0,.int .i64 80] w fun e w' => ∃ v,e = .returned v ∧ OwnR 142 6 roCells w w' v []:=by
 have hc:80 + (grownCap w 80 0 142 - 80) = grownCap w 80 0 142:=by have:=grownCap_ge w 80 0 142; omega
 have hm:grownCap w 80 0 142 ≤ maxLen:=grownCap_le_maxLen w 80 0 142 (by decide)
 have K:=hide (own_room (β:=RoA) (cells:=roCells) (t:=142) (w:=w) (z:=#[Value.string { data:=#[] },Value.int IntKind.i64 0,Value.int IntKind.i64 0,Value.int IntKind.i64 0,Value.int IntKind.i64 0,Value.slice none 0 0]) 80 _ _ rfl hc hm)
 clear hc hm
 go_enter Tryz.func173,Tryz.ntmps173
 go_wp2_with fail
 go_ret
 exact ⟨_,rfl,uh K⟩
theorem Tryz.infoRow:(Tryz.prog.info? 142).map (fun i => (i.zero,i.size,i.bytes)) = some (some (.agg #[.string ByteArray.empty,.int .i64 0,.int .i64 0,.int .i64 0,.int .i64 0,.slice none 0 0]),6,72):=by kernel_rfl
def catN:Nat → Int
 | 0 => 0
 | 1 => 44
 | 2 => 64
 | _ => 80
def catL (L1 L2 L3:List RoA):Nat → List RoA
 | 0 => []
 | 1 => L1
 | 2 => L1 ++ L2
 | _ => L1 ++ L2 ++ L3
theorem cconcat_any (w:World) (b:Nat) (t:TypeId) (p1 p2 p3:Option Addr) (L1 L2 L3:List RoA) (h1:L1.length = 44) (h2:L2.length = 20) (h3:L3.length = 16)
  (hb:Box w b #[.slice p1 44 44,.slice p2 20 20,.slice p3 16 16] t) (r1:Rc 6 roCells noRoA w p1 44 L1) (r2:Rc 6 roCells noRoA w p2 20 L2) (r3:Rc 6 roCells noRoA w p3 16 L3) :
  Calls Tryz.prog 156 #[.slice (some ⟨b,0,none⟩) 3 3] w fun e w' => ∃ v,e = .returned v ∧ OwnR 142 6 roCells w w' v (L1 ++ L2 ++ L3):=by
 have R1:=hide r1
 have R2:=hide r2
 have R3:=hide r3
 have H1:=hide h1
 have H2:=hide h2
 have H3:=hide h3
 have X:=hide hb
 have x0:=hb.cell
 clear r1 r2 r3 h1 h2 h3 hb
 obtain ⟨i1,hi1,y1,z1,b1⟩:=info_parts Tryz.infoRow
 go_enter Tryz.func156,Tryz.ntmps156
 go_wp2_with fail
 go_loop [3,11] (fun s i => ∃ k:Nat,k ≤ 3 ∧ i = .int .i64 k ∧ s = .int .i64 (catN k)) (fun _ i => 3 - (intOf i).toNat)
 case atStart => exact ⟨0,by omega,rfl,rfl⟩
 case round =>
  obtain ⟨k,hk,rfl,rfl⟩:=hrel
  have hc:k = 0 ∨ k = 1 ∨ k = 2 ∨ k = 3:=by omega
  clear hk
  rcases hc with rfl | rfl | rfl | rfl
  ·simp only [catN]
   go_wp2_with fail
   go_round
   case rel => exact ⟨1,by omega,rfl,rfl⟩
   case measure => simp [intOf]
  ·simp only [catN]
   go_wp2_with fail
   go_round
   case rel => exact ⟨2,by omega,rfl,rfl⟩
   case measure => simp [intOf]
  ·simp only [catN]
   go_wp2_with fail
   go_round
   case rel => exact ⟨3,by omega,rfl,rfl⟩
   case measure => simp [intOf]
  ·simp only [catN]
   go_wp2_with fail
   refine (cgrow_any _).mono ?_
   rintro e w1 ⟨v,rfl,hO⟩
   have HO:=hide hO
   clear hO x0
   go_wp2_with fail
   go_loopw [6,27] (fun s i wr => ∃ k:Nat,k ≤ 3 ∧ i = .int .i64 k ∧ Hid (OwnR 142 6 roCells w wr s (catL L1 L2 L3 k))) (fun _ i _ => 3 - (intOf i).toNat)
   case atStart => exact ⟨0,by omega,rfl,HO⟩
   case round =>
    obtain ⟨k,hk,rfl,HK⟩:=hrel
    have hc:k = 0 ∨ k = 1 ∨ k = 2 ∨ k = 3:=by omega
    clear hk HO
    have x0:=((uh X).below (uh HK).2).cell
    rcases hc with rfl | rfl | rfl | rfl
    ·have HM:Hid (L1.length = 44):=H1
     have RM:=hide ((uh R1).below (uh HK).2)
     simp only [catL] at HK
     go_wp2_with (at_builtin; (refine wpList_append_rc roWd noRoA rfl _ _ 171 rfl w 142 i1 _ 72 Tryz.underlying171 hi1 y1 z1 b1 rfl _ (([]:List RoA)) rfl (uh HK) p1 44 L1 (by rw [uh HM]; rfl) (uh RM) (by simp only [List.length_append,uh H1,uh H2,uh H3,List.length_nil]; decide) (by simp only [List.length_append,uh H1,uh H2,uh H3,List.length_nil]; decide) ?_; intro v2 w2 O2 _; have HO2:=hide O2; clear O2))
     go_roundw
     case rel => exact ⟨1,by omega,rfl,hide (by have:=uh HO2; rw [List.nil_append] at this; exact this)⟩
     case measure => simp [intOf]
    ·have HM:Hid (L2.length = 20):=H2
     have RM:=hide ((uh R2).below (uh HK).2)
     simp only [catL] at HK
     go_wp2_with (at_builtin; (refine wpList_append_rc roWd noRoA rfl _ _ 171 rfl w 142 i1 _ 72 Tryz.underlying171 hi1 y1 z1 b1 rfl _ (L1) rfl (uh HK) p2 20 L2 (by rw [uh HM]; rfl) (uh RM) (by simp only [List.length_append,uh H1,uh H2,uh H3,List.length_nil]; decide) (by simp only [List.length_append,uh H1,uh H2,uh H3,List.length_nil]; decide) ?_; intro v2 w2 O2 _; have HO2:=hide O2; clear O2))
     go_roundw
     case rel => exact ⟨2,by omega,rfl,HO2⟩
     case measure => simp [intOf]
    ·have HM:Hid (L3.length = 16):=H3
     have RM:=hide ((uh R3).below (uh HK).2)
     simp only [catL] at HK
     go_wp2_with (at_builtin; (refine wpList_append_rc roWd noRoA rfl _ _ 171 rfl w 142 i1 _ 72 Tryz.underlying171 hi1 y1 z1 b1 rfl _ (L1 ++ L2) rfl (uh HK) p3 16 L3 (by rw [uh HM]; rfl) (uh RM) (by simp only [List.length_append,uh H1,uh H2,uh H3,List.length_nil]; decide) (by simp only [List.length_append,uh H1,uh H2,uh H3,List.length_nil]; decide) ?_; intro v2 w2 O2 _; have HO2:=hide O2; clear O2))
     go_roundw
     case rel => exact ⟨3,by omega,rfl,HO2⟩
     case measure => simp [intOf]
    ·go_wp2_with fail
     go_ret
     exact ⟨_,rfl,uh HK⟩
def tabT:List RowD:=elemT ++ moveT ++ sumT
theorem crows8_any (w:World):Calls Tryz.prog 135 #[] w fun e w' => ∃ p c L,e = .returned (.slice p 80 c) ∧ L.length = 80 ∧ TabIn w' p c L tabT ∧ Below w.heap.size w w':=by
 go_enter Tryz.func135,Tryz.ntmps135
 go_wp2_with fail
 refine (celem8_any _).mono ?_
 rintro e w1 ⟨b1,L1,rfl,l1,t1,hb1⟩
 have T1:=hide t1
 have N1:=hide l1
 have B:=hide hb1
 clear t1 l1 hb1
 go_wp2_with fail
 refine (cmove8_any _).mono ?_
 rintro e w2 ⟨b2,L2,rfl,l2,t2,hb2⟩
 replace T1:=hide ((uh T1).below hb2)
 have T2:=hide t2
 have N2:=hide l2
 replace B:=hide (bl_tr (uh B) hb2)
 clear t2 l2 hb2
 go_wp2_with fail
 refine (csum8_any _).mono ?_
 rintro e w3 ⟨b3,L3,rfl,l3,t3,hb3⟩
 replace T1:=hide ((uh T1).below hb3)
 replace T2:=hide ((uh T2).below hb3)
 have T3:=hide t3
 have N3:=hide l3
 replace B:=hide (bl_tr (uh B) hb3)
 clear t3 l3 hb3
 go_wp2_with fail
 refine (cconcat_any _ _ _ _ _ _ L1 L2 L3 (uh N1) (uh N2) (uh N3) (Box.new _ _ _) ((uh T1).below (al1p _ _)).1 ((uh T2).below (al1p _ _)).1 ((uh T3).below (al1p _ _)).1).mono ?_
 rintro e w4 ⟨v,rfl,hO⟩
 obtain ⟨p,c,rfl,hR,_⟩:=hO.form roWd (z:=noRoA)
 have e80:(L1 ++ L2 ++ L3).length = 80:=by rw [List.length_append,List.length_append,uh N1,uh N2,uh N3]
 have hb4:Below w3.heap.size w3 w4:=bl_tr (al1p _ _) hO.2
 replace T1:=hide ((uh T1).below hb4)
 replace T2:=hide ((uh T2).below hb4)
 replace T3:=hide ((uh T3).below hb4)
 replace B:=hide (bl_tr (uh B) hb4)
 have TT:Hid (TabIn w4 p c (L1 ++ L2 ++ L3) tabT):=hide ⟨hR,fun x hx => by
  rcases List.mem_append.1 hx with h | h
  ·rcases List.mem_append.1 h with h | h
   ·exact (uh T1).2.1 x h
   ·exact (uh T2).2.1 x h
  ·exact (uh T3).2.1 x h,by rw [List.map_append,List.map_append,(uh T1).2.2,(uh T2).2.2,(uh T3).2.2]; rfl⟩
 rw [e80]
 have E80:=hide e80
 clear hO hR hb4 e80 T1 T2 T3
 go_wp2_with fail
 go_ret
 exact ⟨p,c,_,rfl,uh E80,uh TT,uh B⟩
theorem kset6 {TS:List TypeId} {w:World} {g:Nat} {cs:Array Value} {t:TypeId} (h:Box w g cs t) (ht:¬ t ∈ TS) (u0 u1 u2 u3 u4 u5:Value):Kept TS 0 w ((((((w.setCell ⟨g,0,none⟩ u0).setCell ⟨g,1,none⟩ u1).setCell ⟨g,2,none⟩ u2).setCell ⟨g,3,none⟩ u3).setCell ⟨g,4,none⟩ u4).setCell ⟨g,5,none⟩ u5):=by
 have k0:Kept TS 0 w (w.setCell ⟨g,0,none⟩ u0):=Kept.set h (Nat.zero_le _) ht
 have h0:=h.same 0 u0
 have k1:=k0.trans (Kept.set (j:=1) (u:=u1) h0 (Nat.zero_le _) ht)
 have h1:=h0.same 1 u1
 have k2:=k1.trans (Kept.set (j:=2) (u:=u2) h1 (Nat.zero_le _) ht)
 have h2:=h1.same 2 u2
 have k3:=k2.trans (Kept.set (j:=3) (u:=u3) h2 (Nat.zero_le _) ht)
 have h3:=h2.same 3 u3
 have k4:=k3.trans (Kept.set (j:=4) (u:=u4) h3 (Nat.zero_le _) ht)
 have h4:=h3.same 4 u4
 exact k4.trans (Kept.set (j:=5) (u:=u5) h4 (Nat.zero_le _) ht)
def rowT (op:Int):RowD:=if 1 ≤ op ∧ op ≤ 80 then tabT.getD (op - 1).toNat noRowD else noRowD
theorem row_at {L:List RoA} {n:Nat} (h:n < 80) (hl:L.length = 80) (hd:L.map RoA.d = tabT):(L.getD n noRoA).d = rowT ((n:Int) + 1):=by
 unfold rowT
 rw [if_pos ⟨by omega,by omega⟩,← hd]
 have e:((n:Int) + 1 - 1).toNat = n:=by omega
 rw [e,List.getD_eq_getElem?_getD,List.getD_eq_getElem?_getD,List.getElem?_map,List.getElem?_eq_getElem (by omega)]
 rfl
theorem cfind8_no (op:Int) (w:World) (h:op ≤ 0 ∨ 80 < op):Calls Tryz.prog 102 #[.int .i64 op] w fun e w' => e = .returned (.agg (roCells noRoA).toArray) ∧ Below w.heap.size w w':=by
 have e0:Value.agg (roCells noRoA).toArray = .agg #[.string { data:=#[] },.int .i64 0,.int .i64 0,.int .i64 0,.int .i64 0,.slice none 0 0]:=rfl
 rw [e0]
 rcases h with h | h
 ·go_enter Tryz.func102,Tryz.ntmps102
  go_wp2_with fail
  exact bodyPost_ret (v:=.agg #[.string { data:=#[] },.int .i64 0,.int .i64 0,.int .i64 0,.int .i64 0,.slice none 0 0]) (by simp [results,Tryz.results102,go_sem]) rfl ⟨rfl,al1p _ _⟩
 ·have h':¬ op ≤ 0:=by omega
  go_enter Tryz.func102,Tryz.ntmps102
  go_wp2_with fail
  exact bodyPost_ret (v:=.agg #[.string { data:=#[] },.int .i64 0,.int .i64 0,.int .i64 0,.int .i64 0,.slice none 0 0]) (by simp [results,Tryz.results102,go_sem]) rfl ⟨rfl,al1p _ _⟩
theorem cfind8_yes (n:Nat) (w:World) (h:n < 80):Calls Tryz.prog 102 #[.int .i64 ((n:Int) + 1)] w fun e w' => ∃ r:RoA,e = .returned (.agg (roCells r).toArray) ∧ RoIn w' r ∧ r.d = rowT ((n:Int) + 1) ∧ Below w.heap.size w w':=by
 have h0:¬ ((n:Int) + 1 ≤ 0):=by omega
 have h1:¬ (80 < (n:Int) + 1):=by omega
 go_enter Tryz.func102,Tryz.ntmps102
 go_wp2_with fail
 refine (crows8_any _).mono ?_
 rintro e w1 ⟨p,c,L,rfl,hl,ht,hb⟩
 obtain ⟨b,o,rfl,hbl,hc⟩:=ht.1.lies (by omega)
 have hn:n < L.length:=by omega
 have k0:w1.cell? ⟨b,o + n * 6,none⟩ = some (strV (L.getD n noRoA).nm):=hc n hn 0 _ rfl
 have k1:w1.cell? ⟨b,o + n * 6 + 1,none⟩ = some (.int .i64 (L.getD n noRoA).a):=hc n hn 1 _ rfl
 have k2:w1.cell? ⟨b,o + n * 6 + 2,none⟩ = some (.int .i64 (L.getD n noRoA).b):=hc n hn 2 _ rfl
 have k3:w1.cell? ⟨b,o + n * 6 + 3,none⟩ = some (.int .i64 (L.getD n noRoA).c):=hc n hn 3 _ rfl
 have k4:w1.cell? ⟨b,o + n * 6 + 4,none⟩ = some (.int .i64 (L.getD n noRoA).d'):=hc n hn 4 _ rfl
 have k5:w1.cell? ⟨b,o + n * 6 + 5,none⟩ = some (.slice (L.getD n noRoA).q (L.getD n noRoA).ats.length (L.getD n noRoA).k):=hc n hn 5 _ rfl
 have RI:=hide (ht.2.1 _ (getD_mem7 (z:=noRoA) hn))
 have RD:=hide (row_at h hl ht.2.2)
 generalize L.getD n noRoA = r at k0 k1 k2 k3 k4 k5 RI RD
 have X:=hide ((Box.new w #[.string { data:=#[] },.int .i64 0,.int .i64 0,.int .i64 0,.int .i64 0,.slice none 0 0] 142).below hb)
 have B:=hide (bl_tr (al1p _ _) hb)
 unfold strV at k0
 clear hc hbl ht hb hl hn
 have xf:=(uh X).frozen
 have xl:=(uh X).lt
 have x0:=(uh X).cell
 go_wp2_with fail
 have Y:=hide (Box.set6 (uh X) (.string (strOfNums r.nm)) (.int .i64 r.a) (.int .i64 r.b) (.int .i64 r.c) (.int .i64 r.d') (.slice r.q r.ats.length r.k))
 have BY:=bset6 (uh B) (Nat.le_refl _) (.string (strOfNums r.nm)) (.int .i64 r.a) (.int .i64 r.b) (.int .i64 r.c) (.int .i64 r.d') (.slice r.q r.ats.length r.k)
 have KY:=kset6 (TS:=[180]) (uh X) (by decide) (.string (strOfNums r.nm)) (.int .i64 r.a) (.int .i64 r.b) (.int .i64 r.c) (.int .i64 r.d') (.slice r.q r.ats.length r.k)
 refine bodyPost_ret ?_ rfl ⟨r,rfl,(uh RI).kept KY,uh RD,BY⟩
 simp [results,Tryz.results102,go_sem,(uh Y).cell,roCells,strV]
end Go.Proofs.YtbmmcbagdomonaaGreat
