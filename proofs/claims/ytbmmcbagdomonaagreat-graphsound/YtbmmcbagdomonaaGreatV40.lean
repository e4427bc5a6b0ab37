import Derived.Test.YtbmmcbagdomonaaGreatV35
import Derived.Test.YtbmmcbagdomonaaGreatV37
import Derived.Test.YtbmmcbagdomonaaGreatV38
import Derived.Test.YtbmmcbagdomonaaGreatV39
set_option maxRecDepth 100000
set_option maxHeartbeats 40000000
namespace Go.Proofs.YtbmmcbagdomonaaGreat
open Go.RowKit
set_option linter.unusedVariables false
set_option linter.unusedSimpArgs false
section
variable {P:Program} (w:World)
theorem run_zeros_nil (t ti ty e:TypeId) (i:TypeInfo) (z:Value) (ht:P.underlying t = some (.slice e)) (hti:P.underlying ti = some (.int .i64)) (hi:P.info? e = some i) (hz:i.zero = some z)
  (m:Nat) (h0:0 < m) (hms:m * i.size ≠ 0) (h63:(m:Int) ≤ 9223372036854775807) (h48:m * i.bytes ≤ 281474976710656) (hw:IntKind.i64.wrap (m:Int) = m) :
  (Builtin.append_ #[t,ti] ty #[.slice none 0 0,.int .i64 m]).run P w =
   .ok (.slice (some ⟨w.heap.size,0,none⟩) m (grownCap w m 0 e)) (w.drew.alloc (.cells (Builtin.zeroCells z.cells m ++ Builtin.zeroCells z.cells (grownCap w m 0 e - m)) e)):=by
 have hn:m ≠ 0:=by omega
 have h63':¬ (9223372036854775807 < (m:Int)):=by omega
 have h48':¬ (281474976710656 < Builtin.nextslicecap m 0 * i.bytes):=by rw [nextslicecap_zero h0]; omega
 have h48i:¬ ((281474976710656:Int) < (m:Int) * (i.bytes:Int)):=by
  have:(m:Int) * (i.bytes:Int) = ((m * i.bytes:Nat):Int):=by rw [Int.natCast_mul]
  rw [this]; omega
 have hneg:¬ ((m:Int) < 0):=by omega
 have hmax:max (m:Int) 0 = m:=by omega
 have hle:¬ ((m:Int) ≤ 0):=by omega
 have hsz:i.size ≠ 0:=fun e => hms (by rw [e,Nat.mul_zero])
 simp [Builtin.append_,run_underlying ht,run_underlying hti,sizeOf,typeInfo,zeroValue,hi,hz,Builtin.lenOf,hn,h63',h48',h48i,hneg,hw,hmax,hle,hms,hsz,asInt,asIntOf,Question.forced,run_firstCells_none,newRow,grownCap]
theorem run_zeros_room (t ti ty e:TypeId) (i:TypeInfo) (z:Value) (ht:P.underlying t = some (.slice e)) (hti:P.underlying ti = some (.int .i64)) (hi:P.info? e = some i) (hz:i.zero = some z) (hzs:z.cells.size = i.size)
  (g sLen sCap m:Nat) (cur:Array Value) (hg:w.heap[g]? = some (.cells cur e (0,0))) (hms:m * i.size ≠ 0) (h48:m * i.bytes ≤ 281474976710656) (hw:IntKind.i64.wrap (m:Int) = m)
  (h1:∀ u ∈ (Builtin.zeroCells z.cells m).toList,u.oneCell' = true) (hroom:sLen + m ≤ sCap) (hfit:sLen * i.size + m * i.size ≤ cur.size) :
  (Builtin.append_ #[t,ti] ty #[.slice (some ⟨g,0,none⟩) sLen sCap,.int .i64 m]).run P w =
   .ok (.slice (some ⟨g,0,none⟩) (sLen + m) sCap) (w.setRow g (cur.toList.take (sLen * i.size) ++ (Builtin.zeroCells z.cells m).toList ++ cur.toList.drop (sLen * i.size + m * i.size)).toArray):=by
 have hl:(Builtin.zeroCells z.cells m).toList.length = m * i.size:=by rw [Array.length_toList,size_zeroCells,hzs]
 have hst:=run_storeCells_at P g (sLen * i.size) e (Builtin.zeroCells z.cells m).toList 0 cur w hg (by rw [hl]; simpa using hfit) h1
 simp only [Nat.add_zero] at hst
 rw [hl] at hst
 have h48i:¬ ((281474976710656:Int) < (m:Int) * (i.bytes:Int)):=by
  have:(m:Int) * (i.bytes:Int) = ((m * i.bytes:Nat):Int):=by rw [Int.natCast_mul]
  rw [this]; omega
 have hneg:¬ ((m:Int) < 0):=by omega
 have hsz:i.size ≠ 0:=fun e => hms (by rw [e,Nat.mul_zero])
 have hm:m ≠ 0:=fun e => hms (by rw [e,Nat.zero_mul])
 simp [Builtin.append_,run_underlying ht,run_underlying hti,sizeOf,typeInfo,zeroValue,hi,hz,Builtin.lenOf,hroom,h48i,hneg,hw,hms,hsz,hm,asInt,asIntOf,Addr.add_lit,hst]
theorem run_zeros_grow (t ti ty e:TypeId) (i:TypeInfo) (z:Value) (ht:P.underlying t = some (.slice e)) (hti:P.underlying ti = some (.int .i64)) (hi:P.info? e = some i) (hz:i.zero = some z)
  (b:Addr) (sLen sCap m:Nat) (olds:List Value) (hlo:olds.length = sLen * i.size) (holds:∀ j v,olds[j]? = some v → w.cell? (b.add j) = some v)
  (hg:sCap < sLen + m) (hms:m * i.size ≠ 0) (h63:((sLen + m:Nat):Int) ≤ 9223372036854775807) (h48:m * i.bytes ≤ 281474976710656) (hfit:Builtin.nextslicecap (sLen + m) sCap * i.bytes ≤ 281474976710656) (hw:IntKind.i64.wrap (m:Int) = m) :
  (Builtin.append_ #[t,ti] ty #[.slice (some b) sLen sCap,.int .i64 m]).run P w =
   .ok (.slice (some ⟨w.heap.size,0,none⟩) (sLen + m) (grownCap w (sLen + m) sCap e))
    (w.drew.alloc (.cells (olds.toArray ++ Builtin.zeroCells z.cells m ++ Builtin.zeroCells z.cells (grownCap w (sLen + m) sCap e - (sLen + m))) e)):=by
 have hn:¬ (sLen + m ≤ sCap):=by omega
 have h63':¬ (9223372036854775807 < ((sLen:Int) + (m:Int))):=by omega
 have h48':¬ (281474976710656 < Builtin.nextslicecap (sLen + m) sCap * i.bytes):=by omega
 have h48i:¬ ((281474976710656:Int) < (m:Int) * (i.bytes:Int)):=by
  have:(m:Int) * (i.bytes:Int) = ((m * i.bytes:Nat):Int):=by rw [Int.natCast_mul]
  rw [this]; omega
 have hneg:¬ ((m:Int) < 0):=by omega
 have hsz:i.size ≠ 0:=fun e => hms (by rw [e,Nat.mul_zero])
 have hm:m ≠ 0:=fun e => hms (by rw [e,Nat.zero_mul])
 have hmax:max (m:Int) 0 = m:=by omega
 have hfo:=run_firstCells_some (P:=P) w.drew i.size sLen b sLen sCap olds hlo (by simpa using holds)
 simp [Builtin.append_,run_underlying ht,run_underlying hti,sizeOf,typeInfo,zeroValue,hi,hz,Builtin.lenOf,hn,h63',h48',h48i,hneg,hw,hmax,hms,hsz,hm,asInt,asIntOf,Question.forced,hfo,newRow,grownCap]
theorem run_append_zeros_at (base:Nat) (t ti ty e:TypeId) (i:TypeInfo) (z:Value) (size bytes:Nat) (ht:P.underlying t = some (.slice e)) (hti:P.underlying ti = some (.int .i64)) (hi:P.info? e = some i) (hz:i.zero = some z)
  (hsize:i.size = size) (hby:i.bytes = bytes) (hzs:z.cells.size = size) (hsz:0 < size)
  (v:Value) (n:Nat) (xs:List Value) (hown:w.ownsRow base e size v n xs)
  (m:Nat) (h0:0 < m) (h1:∀ u ∈ (Builtin.zeroCells z.cells m).toList,u.oneCell' = true)
  (h63:n + m ≤ maxLen) (hbytes:(n + m) * bytes ≤ 140737488355328) (hbase:base ≤ w.heap.size) :
  ∃ v' w',(Builtin.append_ #[t,ti] ty #[v,.int .i64 m]).run P w = .ok v' w' ∧ w'.ownsRow base e size v' (n + m) (xs ++ (Builtin.zeroCells z.cells m).toList) ∧ w.grownBy w' v.ownBlock ∧
    (v'.ownBlock = v.ownBlock ∨ v'.ownBlock = some w.heap.size):=by
 subst hsize
 subst hby
 have hsmall:n + m ≤ 9223372036854775807:=by simp only [maxLen] at h63; omega
 have hl:(Builtin.zeroCells z.cells m).toList.length = m * i.size:=by rw [Array.length_toList,size_zeroCells,hzs]
 have hlen:(xs ++ (Builtin.zeroCells z.cells m).toList).length = (n + m) * i.size:=by rw [List.length_append,hown.1,hl,Nat.add_mul]
 have hw:IntKind.i64.wrap (m:Int) = m:=Go.IntWalk.i64_in _ (by omega)
 have hms:m * i.size ≠ 0:=by
  have:=Nat.mul_pos h0 hsz; omega
 have hmb:m * i.bytes ≤ 140737488355328:=Nat.le_trans (Nat.mul_le_mul_right _ (Nat.le_add_left m n)) hbytes
 have grown:∀ (old:Nat),old < n + m → ∀ (row:Option Nat),
   (w.drew.alloc (.cells (xs.toArray ++ Builtin.zeroCells z.cells m ++ Builtin.zeroCells z.cells (grownCap w (n + m) old e - (n + m))) e)).ownsRow base e i.size
    (.slice (some ⟨w.heap.size,0,none⟩) (n + m) (grownCap w (n + m) old e)) (n + m) (xs ++ (Builtin.zeroCells z.cells m).toList) ∧
   w.grownBy (w.drew.alloc (.cells (xs.toArray ++ Builtin.zeroCells z.cells m ++ Builtin.zeroCells z.cells (grownCap w (n + m) old e - (n + m))) e)) row:=by
  intro old ho row
  have hge:=grownCap_ge w (n + m) old e
  have hcm:grownCap w (n + m) old e ≤ maxLen:=grownCap_le_maxLen w (n + m) old e h63
  refine ⟨⟨hlen,.inr ⟨w.heap.size,_,_,rfl,hbase,heap_alloc_new w.drew _,hge,hcm,?_,?_⟩⟩,⟨rfl,rfl,rfl,by simp,fun k hk _ => Below.heap_alloc _ _ _ (by simpa using hk)⟩⟩
  ·simp only [Array.size_append,List.size_toArray,size_zeroCells,hzs,hown.1,← Nat.add_mul]
   congr 1
   omega
  ·simp only [Array.toList_append,List.append_assoc]
   rw [← List.append_assoc,← hlen]
   exact List.take_left
 rcases hown.2 with ⟨rfl,rfl⟩ | ⟨g,cap,cur,rfl,hbg,hg,hnc,hcm,hcs,htake⟩
 ·have hx:xs = []:=List.eq_nil_of_length_eq_zero (by simpa using hown.1)
  subst hx
  have hr:=run_zeros_nil (P:=P) w t ti ty e i z ht hti hi hz m h0 hms (by omega) (by omega) hw
  have hgr:=grown 0 (by omega) (Value.ownBlock (.slice none 0 0))
  simp only [Nat.zero_add,List.nil_append,Array.empty_append] at hgr ⊢
  exact ⟨_,_,hr,hgr.1,hgr.2,Or.inr rfl⟩
 ·by_cases hroom:n + m ≤ cap
  ·have hfit:n * i.size + m * i.size ≤ cur.size:=by rw [hcs,← Nat.add_mul]; exact Nat.mul_le_mul_right _ hroom
   have hr:=run_zeros_room (P:=P) w t ti ty e i z ht hti hi hz hzs g n cap m cur hg hms (by omega) hw h1 hroom hfit
   refine ⟨_,_,hr,⟨hlen,.inr ⟨g,cap,_,rfl,hbg,setRow_heap w g cur _ e _ hg,hroom,hcm,?_,?_⟩⟩,⟨rfl,rfl,rfl,by simp,fun k _ hk => setRow_other w g k _ (fun e => hk (by simp [Value.ownBlock,e]))⟩,Or.inl rfl⟩
   ·simp only [List.size_toArray,List.length_append,List.length_take,List.length_drop,Array.length_toList,hl,size_zeroCells,hzs]
    omega
   ·rw [htake,← hlen]
    exact List.take_left
  ·have holds:∀ j u,xs[j]? = some u → w.cell? ((⟨g,0,none⟩:Addr).add j) = some u:=hown.cells (g:=g) rfl
   have hr:=run_zeros_grow (P:=P) w t ti ty e i z ht hti hi hz ⟨g,0,none⟩ n cap m xs hown.1 holds (by omega) hms (by omega) (by omega) (growslice_fits (by omega) hbytes) hw
   have hgr:=grown cap (by omega) (Value.ownBlock (.slice (some ⟨g,0,none⟩) n cap))
   exact ⟨_,_,hr,hgr.1,hgr.2,Or.inr rfl⟩
end
theorem wpList_append_zeros {β:Type} {k:Nat} {cells:β → List Value} {In:(Nat → Prop) → World → β → Prop} {w:World} {P:Program} {ops:Array Oper} {rest:List Oper} {o:Oper} {a:Act} {Q:Exit → Act → World → Prop} (hk:Wd k cells) (hI:InP In) (hgd:o.guard = none) (s x:Operand) (t ti:TypeId)
  (ho:o.op = .call { callee:=.builtin .append,args:=#[s,x],argTypes:=#[t,ti] })
  (w0:World) (e:TypeId) (i:TypeInfo) (zr:β) (zv:Value) (bytes:Nat) (ht:P.underlying t = some (.slice e)) (hti:P.underlying ti = some (.int .i64)) (hi:P.info? e = some i) (hz:i.zero = some zv)
  (hsize:i.size = k) (hby:i.bytes = bytes) (hzv:zv.cells = (cells zr).toArray)
  (v:Value) (l:List β) (hs:a.eval s = v) (hown:OwnE e k cells In w0 w v l)
  (m:Nat) (hx:a.eval x = .int .i64 m) (h0:0 < m) (hy:∀ OK w',In OK w' zr)
  (h63:l.length + m ≤ maxLen) (hbytes:(l.length + m) * bytes ≤ 140737488355328)
  (h:∀ v' w',OwnE e k cells In w0 w' v' (l ++ List.replicate m zr) → w.grownBy w' v.ownBlock → (v'.ownBlock = v.ownBlock ∨ v'.ownBlock = some w.heap.size) → wpList P ops Q rest (a.put o.dst v') w'):wpList P ops Q (o :: rest) a w:=by
 have hsz:zv.cells.size = k:=by rw [hzv]; simp [hk.2.1]
 have e0:(Builtin.zeroCells zv.cells m).toList = (List.replicate m zr).flatMap cells:=by
  have:=made_flat hk zr m
  rw [← this,← hzv]
  unfold Builtin.zeroCells madeCells
  rw [hsz]
 obtain ⟨v',w',hr,h1,h2,h3⟩:=run_append_zeros_at (P:=P) w w0.heap.size t ti o.type e i zv k bytes ht hti hi hz hsize hby hsz hk.1 v l.length (l.flatMap cells) hown.1.1 m h0 (fun u hu => by
  rw [e0] at hu
  obtain ⟨f,_,hf⟩:=List.mem_flatMap.1 hu
  exact hk.2.2 f u hf) h63 hbytes hown.1.2.size
 refine wpList_plain hgd fun K hK => ?_
 unfold Oper.wp execOp
 simp only [ho,resolve,invoke,builtin,Sem.run_bind,Sem.run_pure,Result.andThen_ok,List.map_toArray,List.map_cons,List.map_nil,hs,hx,hr]
 refine hK _ _ (h v' w' ⟨⟨?_,hown.1.2.grown h2 hown.1.2.size (fun k hk => (hown.1.1.lt k hk).1)⟩,fun u hu => ?_⟩ h2 h3)
 ·rw [List.length_append,List.flatMap_append,List.length_replicate,← e0]
  exact h1
 ·rcases List.mem_append.1 hu with g | g
  ·refine hI.hold (hI.mono (hown.2 u g) (OK':=fun b => (w0.heap.size ≤ b ∧ v.ownBlock ≠ some b ∧ v'.ownBlock ≠ some b)) (fun b hb hl => ⟨hb.1,hb.2,?_⟩)) (Hold.grown h2 (fun b hb => hb.2.1)) |> fun q => hI.mono q (fun b hb _ => ⟨hb.1,hb.2.2⟩)
   rcases h3 with e | e
   ·rw [e]; exact hb.2
   ·rw [e]; intro e2; simp only [Option.some.injEq] at e2; omega
  ·rw [List.eq_of_mem_replicate g]; exact hy _ _
def okD9 (D:SeD):Prop:=okT8 (D 31).T
def okL9 (l:List (Nat × FV)):Prop:=∀ x ∈ l,x.1 = 31 → okT8 x.2.T
theorem updL_ok9:∀ (l:List (Nat × FV)) (D:SeD),okD9 D → okL9 l → okD9 (updL D l)
 | [],D,h,_ => h
 | x :: r,D,h,hl => by
   show okD9 (updL (updD D x.1 x.2) r)
   refine updL_ok9 r _ ?_ (fun y hy => hl y (List.mem_cons_of_mem _ hy))
   unfold okD9 updD
   by_cases e:31 = x.1
   ·rw [if_pos e]; exact hl x (List.mem_cons_self ..) e.symm
   ·rw [if_neg e]; exact h
theorem okL_nil:okL9 []:=fun x hx => by cases hx
theorem okL_one {k:Nat} {f:FV} (h:k = 31 → okT8 f.T):okL9 [(k,f)]:=fun x hx => by
 simp only [List.mem_singleton] at hx; subst hx; exact h
theorem okL_two {k j:Nat} {f g:FV} (h:k ≠ 31) (h2:j ≠ 31):okL9 [(k,f),(j,g)]:=fun x hx => by
 simp only [List.mem_cons,List.not_mem_nil,or_false] at hx
 rcases hx with rfl | rfl
 ·exact fun e => absurd e h
 ·exact fun e => absurd e h2
theorem flagK_ne (nm:Str):∀ k,flagK nm = some k → k ≠ 31:=by
 unfold flagK
 by_cases h0:nm = [100,101,116,101,99,116,95,110,101,103,97,116,105,118,101]
 ·rw [if_pos h0]; intro k h; cases h; decide
 rw [if_neg h0]
 by_cases h1:nm = [100,101,116,101,99,116,95,112,111,115,105,116,105,118,101]
 ·rw [if_pos h1]; intro k h; cases h; decide
 rw [if_neg h1]
 by_cases h2:nm = [102,109,111,100]
 ·rw [if_pos h2]; intro k h; cases h; decide
 rw [if_neg h2]
 by_cases h3:nm = [97,108,108,111,119,122,101,114,111]
 ·rw [if_pos h3]; intro k h; cases h; decide
 rw [if_neg h3]
 by_cases h4:nm = [107,101,101,112,100,105,109,115]
 ·rw [if_pos h4]; intro k h; cases h; decide
 rw [if_neg h4]
 by_cases h5:nm = [110,111,111,112,95,119,105,116,104,95,101,109,112,116,121,95,97,120,101,115]
 ·rw [if_pos h5]; intro k h; cases h; decide
 rw [if_neg h5]
 by_cases h6:nm = [115,101,108,101,99,116,95,108,97,115,116,95,105,110,100,101,120]
 ·rw [if_pos h6]; intro k h; cases h; decide
 rw [if_neg h6]
 by_cases h7:nm = [116,114,97,110,115,65]
 ·rw [if_pos h7]; intro k h; cases h; decide
 rw [if_neg h7]
 by_cases h8:nm = [116,114,97,110,115,66]
 ·rw [if_pos h8]; intro k h; cases h; decide
 rw [if_neg h8]
 by_cases h9:nm = [99,101,105,108,95,109,111,100,101]
 ·rw [if_pos h9]; intro k h; cases h; decide
 rw [if_neg h9]
 by_cases h10:nm = [99,111,117,110,116,95,105,110,99,108,117,100,101,95,112,97,100]
 ·rw [if_pos h10]; intro k h; cases h; decide
 rw [if_neg h10]
 intro k h; cases h
theorem wrL_ok9 (nm:Str) (n:Int):okL9 (wrL nm n):=by
 have hfk:=flagK_ne nm
 unfold wrL
 by_cases h0:nm = [97,108,112,104,97]
 ·rw [if_pos h0]; exact okL_one (fun e => absurd e (by decide))
 rw [if_neg h0]
 by_cases h1:nm = [98,101,116,97]
 ·rw [if_pos h1]; exact okL_one (fun e => absurd e (by decide))
 rw [if_neg h1]
 by_cases h2:nm = [101,112,115,105,108,111,110]
 ·rw [if_pos h2]; exact okL_one (fun e => absurd e (by decide))
 rw [if_neg h2]
 by_cases h3:nm = [118,97,108,117,101,95,102,108,111,97,116]
 ·rw [if_pos h3]; exact okL_one (fun _ => by simp [okT8,FV.t])
 rw [if_neg h3]
 by_cases h4:nm = [118,97,108,117,101,95,105,110,116]
 ·rw [if_pos h4]; exact okL_one (fun _ => by simp [okT8,FV.t])
 rw [if_neg h4]
 by_cases h5:nm = [97,120,105,115]
 ·rw [if_pos h5]; exact okL_one (fun e => absurd e (by decide))
 rw [if_neg h5]
 by_cases h6:nm = [116,111]
 ·rw [if_pos h6]; exact okL_one (fun e => absurd e (by decide))
 rw [if_neg h6]
 by_cases h7:nm = [98,108,111,99,107,115,105,122,101]
 ·rw [if_pos h7]; exact okL_one (fun e => absurd e (by decide))
 rw [if_neg h7]
 by_cases h8:nm = [103,114,111,117,112]
 ·rw [if_pos h8]; exact okL_one (fun e => absurd e (by decide))
 rw [if_neg h8]
 by_cases h9:nm = [115,116,97,114,116]
 ·rw [if_pos h9]; exact okL_one (fun e => absurd e (by decide))
 rw [if_neg h9]
 by_cases h10:nm = [101,110,100]
 ·rw [if_pos h10]; exact okL_two (by decide) (by decide)
 rw [if_neg h10]
 by_cases h11:nm = [109,111,100,101]
 ·rw [if_pos h11]; exact okL_one (fun e => absurd e (by decide))
 rw [if_neg h11]
 by_cases h12:nm = [114,101,100,117,99,116,105,111,110]
 ·rw [if_pos h12]; exact okL_one (fun e => absurd e (by decide))
 rw [if_neg h12]
 by_cases h13:nm = [97,117,116,111,95,112,97,100]
 ·rw [if_pos h13]; exact okL_one (fun e => absurd e (by decide))
 rw [if_neg h13]
 cases hk:flagK nm with
 | none => exact okL_nil
 | some k => exact okL_one (fun e => absurd e (hfk k hk))
theorem wlL_ok9 (nm:Str) (xs:List Int):okL9 (wlL nm xs):=by
 unfold wlL
 by_cases h0:nm = [112,101,114,109]
 ·rw [if_pos h0]; exact okL_two (by decide) (by decide)
 rw [if_neg h0]
 by_cases h1:nm = [97,120,101,115]
 ·rw [if_pos h1]; exact okL_two (by decide) (by decide)
 rw [if_neg h1]
 by_cases h2:nm = [100,105,108,97,116,105,111,110,115]
 ·rw [if_pos h2]; exact okL_one (fun e => absurd e (by decide))
 rw [if_neg h2]
 by_cases h3:nm = [107,101,114,110,101,108,95,115,104,97,112,101]
 ·rw [if_pos h3]; exact okL_one (fun e => absurd e (by decide))
 rw [if_neg h3]
 by_cases h4:nm = [112,97,100,115]
 ·rw [if_pos h4]; exact okL_one (fun e => absurd e (by decide))
 rw [if_neg h4]
 by_cases h5:nm = [115,116,114,105,100,101,115]
 ·rw [if_pos h5]; exact okL_one (fun e => absurd e (by decide))
 rw [if_neg h5]
 exact okL_nil
theorem takeV_ok9 {so:Int} {nm:Str} {kd f i:Int} {s:Str} {T:Ten} {fl is:List Int} (hT:okT8 T) (hf:fl.length ≤ 1000000) (hi:is.length ≤ 1000000):∀ l,takeV so nm kd f i s T fl is = some l → okL9 l:=by
 intro l h
 unfold takeV at h
 repeat' split at h
 all_goals first
  | (cases h; exact wrL_ok9 _ _)
  | (cases h; exact wlL_ok9 _ _)
  | (cases h; exact okL_one (fun _ => hT))
  | (cases h; exact okL_one (fun _ => by simp [okT8,FV.t]; omega))
  | cases h
theorem zero_ok9:okD9 zeroD:=by unfold okD9 zeroD; simp [kindsK,okT8,FV.t,noTen]
theorem stand_ok9 (l:List AtD):okD9 (standD l):=by
 have key:∀ (l:List AtD) (D:SeD),okD9 D → okD9 (l.foldl standF D):=by
  intro l
  induction l with
  | nil => intro D h; exact h
  | cons a r ih =>
    intro D h
    refine ih _ ?_
    unfold standF
    split
    ·show okT8 (updD D 31 _ 31).T
     unfold updD
     rw [if_pos rfl]
     simp [okT8,FV.t]
    ·split
     ·exact h
     ·exact updL_ok9 _ _ h (wrL_ok9 _ _)
 exact key l _ zero_ok9
def okA9 (a:AttrD):Prop:=okT8 a.2.2.2.2.2.1 ∧ a.2.2.2.2.2.2.1.length ≤ 1000000 ∧ a.2.2.2.2.2.2.2.length ≤ 1000000
theorem setting_ok9 {ats:List AtD} {l:List AttrD} (h:∀ a ∈ l,okA9 a) {D:SeD} (hs:settingV ats l = some D):okD9 D:=by
 have key:∀ (l:List AttrD),(∀ a ∈ l,okA9 a) → ∀ st:Option (SeD × List Bool),(∀ D sn,st = some (D,sn) → okD9 D) → ∀ D sn,l.foldl (stepS ats) st = some (D,sn) → okD9 D:=by
  intro l
  induction l with
  | nil => intro _ st h0 D sn e; exact h0 D sn e
  | cons a r ih =>
    intro ha st h0
    refine ih (fun x hx => ha x (List.mem_cons_of_mem _ hx)) _ ?_
    intro D sn e
    have h1:=ha a (List.mem_cons_self ..)
    cases st with
    | none => cases e
    | some p =>
      obtain ⟨D0,s0⟩:=p
      have h00:=h0 D0 s0 rfl
      unfold stepS at e
      simp only at e
      split at e
      ·cases e
      ·split at e
       ·cases e
       ·split at e
        ·cases e
        ·rename_i l' hl'
         simp only [Option.some.injEq,Prod.mk.injEq] at e
         rw [← e.1]
         exact updL_ok9 _ _ h00 (takeV_ok9 h1.1 h1.2.1 h1.2.2 _ hl')
 unfold settingV at hs
 cases e:foldS ats l with
 | none => rw [e] at hs; cases hs
 | some p =>
   obtain ⟨D1,sn⟩:=p
   rw [e] at hs
   simp only at hs
   have h1:okD9 D1:=key l h _ (fun D sn e => by simp only [Option.some.injEq,Prod.mk.injEq] at e; rw [← e.1]; exact stand_ok9 ats) D1 sn e
   split at hs
   ·cases hs
   ·split at hs
    ·simp only [Option.some.injEq] at hs; rw [← hs]; exact h1
    ·cases hs
theorem res_ok9 {n:NodeD} (h:∀ a ∈ n.2.2.2.2,okA9 a):okD9 (resV n).2.1:=by
 unfold resV
 split
 ·exact zero_ok9
 ·split
  ·exact zero_ok9
  ·split
   ·exact zero_ok9
   ·rename_i D hD
    split
    ·exact zero_ok9
    ·exact setting_ok9 h hD
theorem atSm_ok9 {a:AtA} (h:AtSm a):okA9 a.d:=by
 obtain ⟨_,_,h1,h2,h3,h4,h5,h6⟩:=h
 refine ⟨⟨?_,?_,?_,?_⟩,?_,?_⟩
 ·show a.T.2.1.length * 8 ≤ _; omega
 ·show a.T.2.2.1.length * 4 ≤ _; omega
 ·show a.T.2.2.2.1.length * 8 ≤ _; omega
 ·show a.T.2.2.2.2.length ≤ _; omega
 ·show a.fl.length ≤ _; omega
 ·show a.is.length ≤ _; omega
theorem aggTen9:AggT 47 5:=fun w => ⟨by kernel_rfl,by kernel_rfl⟩
theorem Tryz.info9Val:(Tryz.prog.info? 59).map (fun i => (i.zero,i.size,i.bytes)) = some (some (.agg valZ),8,144):=by kernel_rfl
def tenL9 (T:Ten) (A:TA):List Value:=[.int .i64 T.1,.slice A.pd T.2.1.length A.cd,.slice A.pf T.2.2.1.length A.cf,.slice A.pi T.2.2.2.1.length A.ci,.slice A.pb T.2.2.2.2.length A.cb]
theorem tenL_len (T:Ten) (A:TA):(tenL9 T A).length = 5:=rfl
theorem at8_in (w:World) (b:Nat) (x:InA) (h:At8 w b 0 (inCells x)):At8 w b 1 (tenL9 x.T x.A):=fun j v hj => by
 have:=h (j + 1) v (by simpa [inCells,tenCells,tenL9] using hj)
 rw [Nat.zero_add,Nat.add_comm] at this; exact this
theorem at8_gn {OK:Nat → Prop} {w:World} {b:Nat} {x:GnA} (h:At8 w b 0 (gnCells x)) (hs:SeL OK w x.cs x.D):∃ A,At8 w b 32 (tenL9 (x.D 31).T A) ∧ TenL OK w (x.D 31).T A:=by
 obtain ⟨hf,hk⟩:=hs.2 31 (by omega)
 have h4:kindF (x.D 31) = 4:=by rw [hk]; rfl
 generalize x.D 31 = f at hf h4
 obtain ⟨k,a,y,xs,T⟩:=f
 match k,hf,h4 with
 | 0,_,h4 => cases h4
 | 1,_,h4 => cases h4
 | 2,_,h4 => cases h4
 | 3,_,h4 => cases h4
 | k + 4,hf,_ =>
   obtain ⟨A,⟨c0,c1,c2,c3,c4⟩,hT⟩:=hf
   refine ⟨A,fun j v hj => ?_,hT⟩
   have hcs:=x.hc.1
   have key:∀ i u,i < 36 → x.cs[i]? = some u → w.cell? ⟨b,1 + i,none⟩ = some u:=fun i u hi hu => by
    have:=h (1 + i) u (by
     rw [Nat.add_comm 1 i]
     show (Value.int .i64 x.op :: (x.cs.toList ++ _))[i + 1]? = some u
     rw [List.getElem?_cons_succ,List.getElem?_append_left (by rw [Array.length_toList,hcs]; exact hi),Array.getElem?_toList]
     exact hu)
    rw [Nat.zero_add] at this; exact this
   have hlt:=(List.getElem?_eq_some_iff.1 hj).1
   rw [tenL_len] at hlt
   match j,hlt,hj with
   | 0,_,hj => cases hj; exact key 31 _ (by omega) c0
   | 1,_,hj => cases hj; exact key 32 _ (by omega) c1
   | 2,_,hj => cases hj; exact key 33 _ (by omega) c2
   | 3,_,hj => cases hj; exact key 34 _ (by omega) c3
   | 4,_,hj => cases hj; exact key 35 _ (by omega) c4
theorem tenWr_ok {T:Ten} (h:TenWr T):okLen T:=by
 obtain ⟨h1,h2,h3,h4⟩:=h
 exact ⟨by omega,by omega,by omega,by omega⟩
theorem own_off {β:Type} {t:TypeId} {k:Nat} {cells:β → List Value} {w0 w:World} {v:Value} {l:List β} (h:OwnR t k cells w0 w v l):∀ b,w.heap.size ≤ b → v.ownBlock ≠ some b:=fun b hb e => by
 have:=(h.lt9 b e).1; omega
theorem keepX {W wr w':World} {b:Nat} {v v':Value} (h:wr.heap[b]? = W.heap[b]?) (hl:b < wr.heap.size) (hv:v.ownBlock ≠ some b) (g:wr.grownBy w' v.ownBlock) (l:v'.ownBlock = v.ownBlock ∨ v'.ownBlock = some wr.heap.size):w'.heap[b]? = W.heap[b]? ∧ b < w'.heap.size ∧ v'.ownBlock ≠ some b:=by
 refine ⟨(g.block b hl (fun e => hv e.symm)).trans h,Nat.lt_of_lt_of_le hl g.size,?_⟩
 rcases l with e | e
 ·rw [e]; exact hv
 ·rw [e]; intro e2; simp only [Option.some.injEq] at e2; omega
theorem vg_new {B:Nat} {w5 w6 w7:World} {a:VgA} {own:Option Nat} (h:VgIn (fun b => w5.heap.size ≤ b) w6 a) (hb:Below w6.heap.size w6 w7) (hB:B ≤ w5.heap.size) (ho:∀ b,w5.heap.size ≤ b → own ≠ some b):VgIn (fun b => B ≤ b ∧ own ≠ some b) w7 a :=
 vgP.hold (vgP.mono h (fun b hb _ => ⟨Nat.le_trans hB hb,ho b hb⟩)) (Hold.below hb)
theorem step_append_el {β:Type} {k:Nat} {cells:β → List Value} {In:(Nat → Prop) → World → β → Prop} {P:Program} {ops:Array Oper} {o:Oper} {a:Act} {w:World} {K:Act → World → Prop} {Q:Exit → Act → World → Prop} {E:Prop} (hk:Wd k cells) (hI:InP In) (hgd:o.guard = none) (s x:Operand) (t:TypeId)
  (ho:o.op = .call { callee:=.builtin .append,args:=#[s,x],argTypes:=#[t,t] })
  (w0:World) (e:TypeId) (i:TypeInfo) (zv:Value) (bytes:Nat) (ht:P.underlying t = some (.slice e)) (hi:P.info? e = some i) (hz:i.zero = some zv)
  (hsize:i.size = k) (hby:i.bytes = bytes) (hzs:zv.cells.size = k)
  (v:Value) (l:List β) (hs:a.eval s = v) (hown:OwnE e k cells In w0 w v l)
  (ad:Addr) (c:Nat) (y:β) (hx:a.eval x = .slice (some ad) 1 c) (hc:∀ j u,(cells y)[j]? = some u → w.cell? (ad.add j) = some u)
  (hy:In (fun b => w0.heap.size ≤ b ∧ v.ownBlock ≠ some b) w y)
  (h63:l.length + 1 ≤ maxLen) (hbytes:(l.length + 1) * bytes ≤ 140737488355328)
  (hK:∀ v' w',OwnE e k cells In w0 w' v' (l ++ [y]) → w.grownBy w' v.ownBlock → (v'.ownBlock = v.ownBlock ∨ v'.ownBlock = some w.heap.size) → K (a.put o.dst v') w') :
  if Region.wanted o (yielded ops a.tmps) = true then Oper.wp P o a w K Q else E:=by
 have hw:Region.wanted o (yielded ops a.tmps) = true:=by simp [Region.wanted,hgd]
 rw [if_pos hw]
 obtain ⟨v',w',hr,h1,h2,_,h4⟩:=run_append_own_at (P:=P) w w0.heap.size t o.type e i zv k bytes ht hi hz hsize hby hzs hk.1 v l.length (l.flatMap cells) hown.1.1 ad 1 c (cells y) (by rw [hk.2.1,Nat.one_mul]) hc (hk.2.2 y) h63 hbytes hown.1.2.size
 unfold Oper.wp execOp
 simp only [ho,resolve,invoke,builtin,Sem.run_bind,Sem.run_pure,Result.andThen_ok,List.map_toArray,List.map_cons,List.map_nil,hs,hx,hr]
 refine hK _ _ ⟨⟨?_,hown.1.2.grown h2 hown.1.2.size (fun k hk => (hown.1.1.lt k hk).1)⟩,fun u hu => ?_⟩ h2 h4
 ·rw [List.length_append,List.flatMap_append]
  simpa using h1
 ·have hu':In (fun b => w0.heap.size ≤ b ∧ v.ownBlock ≠ some b) w u:=by
   rcases List.mem_append.1 hu with g | g
   ·exact hown.2 u g
   ·simp only [List.mem_singleton] at g; rw [g]; exact hy
  refine hI.hold (hI.mono hu' (OK':=fun b => (w0.heap.size ≤ b ∧ v.ownBlock ≠ some b ∧ v'.ownBlock ≠ some b)) (fun b hb hl => ⟨hb.1,hb.2,?_⟩)) (Hold.grown h2 (fun b hb => hb.2.1)) |> fun q => hI.mono q (fun b hb _ => ⟨hb.1,hb.2.2⟩)
  rcases h4 with e | e
  ·rw [e]; exact hb.2
  ·rw [e]; intro e2; simp only [Option.some.injEq] at e2; omega
def gnZc:Array Value:=(.int .i64 0 :: (zeroC.toList ++ [.slice none 0 0,.slice none 0 0,.int .i64 0])).toArray
end Go.Proofs.YtbmmcbagdomonaaGreat
