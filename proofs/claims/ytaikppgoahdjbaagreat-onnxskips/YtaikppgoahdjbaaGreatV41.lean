import Derived.Test.YtaikppgoahdjbaaGreatV02
import Derived.Test.YtaikppgoahdjbaaGreatV27
import Derived.Test.YtaikppgoahdjbaaGreatV29
import Derived.Test.YtaikppgoahdjbaaGreatV40
set_option maxRecDepth 100000
set_option maxHeartbeats 8000000
namespace Go.Proofs.YtaikppgoahdjbaaGreat
open Go.RowKit
set_option linter.unusedVariables false
theorem decode_of {c:List Int} {L:List Fld} {gb:List Int} {m:ModelD} (hc:c.length ≤ 4194304) (hf:fieldsP c = (L,no3)) (h1:(wholeP L 1).2 = no3) (h7:messageP L 7 = ((gb,true),no3)) (hg:graphP gb = ((m.2.1,m.2.2.1,m.2.2.2.1,m.2.2.2.2.1,m.2.2.2.2.2),no3)) (h8:setsP L = no3) (hm:m.1 = 17):decodeV c = (m,0):=by
 have hfl:fAll [no3,(wholeP L 1).2,no3,bad3 (!true),no3,setsP L] = no3:=by rw [h1,h8]; rfl
 unfold decodeV
 rw [if_neg (by omega),hf]
 simp only [h7,hg,hfl]
 rw [if_neg (by decide),if_neg (by decide),if_neg (by decide)]
 obtain ⟨a,b,c,d,e,f⟩:=m
 simp only at hm ⊢
 rw [hm]
theorem sets_of {L:List Fld} {bs:List (List Int)} (he:eachP L 8 L.length = (bs,no3)) (hb:∀ b ∈ bs,(fieldsP b).2 = no3 ∧ (textP (fieldsP b).1 1).2 = no3 ∧ (wholeP (fieldsP b).1 2).2 = no3) (hv:versF 0 bs = 17):setsP L = no3:=by
 unfold setsP
 rw [he]
 simp only [hv]
 refine fAll_of (fun x hx => ?_)
 rcases List.mem_append.1 hx with hx | hx
 ·rcases List.mem_append.1 hx with hx | hx
  ·simp only [List.mem_cons,List.not_mem_nil,or_false] at hx
   exact hx
  ·obtain ⟨b,hb2,rfl⟩:=List.mem_map.1 hx
   obtain ⟨g1,g2,g3⟩:=hb b hb2
   rw [g1,g2,g3]
   rfl
 ·simp only [List.mem_cons,List.not_mem_nil,or_false] at hx
  rw [hx]
  rfl
theorem set17_bytes:msgB [numF 2 17] = [16,17]:=by decide +kernel
theorem checkM_no {m:ModelD} (h:checkM m = 0) (hodd:(modelW m).2.1 = false):modelW m = no3:=by
 unfold checkM at h
 by_cases h1:(modelW m).1 = true
 ·rw [if_pos h1] at h; exact absurd h (by decide)
 ·rw [if_neg h1] at h
  by_cases h2:(modelW m).2.2 = true
  ·rw [if_pos h2] at h; exact absurd h (by decide)
  ·generalize modelW m = w at h1 h2 hodd
   obtain ⟨a,b,c⟩:=w
   have e1:a = false:=by simpa using h1
   have e2:c = false:=by simpa using h2
   have e3:b = false:=hodd
   subst e1 e2 e3
   rfl
theorem f3_odd (a b:F3):(f3 a b).2.1 = (a.2.1 || b.2.1):=rfl
theorem fAll_odd:∀ {l:List F3},(∀ x ∈ l,x.2.1 = false) → (fAll l).2.1 = false
 | [],_ => rfl
 | x :: r,h => by
   rw [fAll_cons,f3_odd,h x (by simp),fAll_odd (fun y hy => h y (by simp [hy]))]
   rfl
theorem tensW_odd (t:TenD):(tensW t).2.1 = false:=by unfold tensW; split <;> rfl
theorem attrW_odd (x:AttrD):(attrW x).2.1 = false:=by
 unfold attrW
 refine fAll_odd (fun y hy => ?_)
 simp only [List.mem_cons,List.not_mem_nil,or_false] at hy
 rcases hy with h | h | h | h <;> rw [h]
 ·rfl
 ·rfl
 ·rfl
 ·split
  ·rfl
  ·split
   ·exact tensW_odd _
   ·rfl
theorem nodeW_odd (n:NodeD):(nodeW n).2.1 = false:=by
 unfold nodeW
 refine fAll_odd (fun y hy => ?_)
 simp only [List.mem_append,List.mem_cons,List.not_mem_nil,or_false,List.mem_map] at hy
 rcases hy with ((h | ⟨s,_,h⟩) | ⟨s,_,h⟩) | ⟨a,_,h⟩
 ·rcases h with h | h | h | h <;> rw [h] <;> rfl
 ·rw [← h]; rfl
 ·rw [← h]; rfl
 ·rw [← h]; exact attrW_odd a
theorem valuesW_odd (l:List ValD):(valuesW l).2.1 = false:=by
 unfold valuesW
 refine fAll_odd (fun y hy => ?_)
 rcases List.mem_cons.1 hy with h | h
 ·rw [h]; rfl
 ·obtain ⟨v,_,rfl⟩:=List.mem_map.1 h
  unfold valW
  refine fAll_odd (fun y hy => ?_)
  simp only [List.mem_cons,List.not_mem_nil,or_false] at hy
  rcases hy with h | h | h <;> rw [h] <;> rfl
theorem modelW_odd (m:ModelD):(modelW m).2.1 = false:=by
 unfold modelW
 refine fAll_odd (fun y hy => ?_)
 simp only [List.mem_append,List.mem_cons,List.not_mem_nil,or_false,List.mem_map] at hy
 rcases hy with ((h | ⟨n,_,h⟩) | ⟨x,_,h⟩) | h
 ·rcases h with h | h | h <;> rw [h] <;> rfl
 ·rw [← h]; exact nodeW_odd n
 ·rw [← h,f3_odd]; exact (by rw [tensW_odd]; rfl)
 ·rcases h with h | h <;> rw [h] <;> exact valuesW_odd _
theorem encode_ok {m:ModelD} (h:(encodeV m).2 = 0):modelW m = no3 ∧ (msgB (modelF m)).length ≤ 4194304 ∧ encodeV m = (msgB (modelF m),0):=by
 unfold encodeV at h ⊢
 by_cases h1:checkM m = 0
 ·rw [if_pos h1] at h ⊢
  by_cases h2:4194304 < (msgB (modelF m)).length
  ·rw [if_pos h2] at h; exact absurd h (by decide)
  ·rw [if_neg h2]
   exact ⟨checkM_no h1 (modelW_odd m),by omega,rfl⟩
 ·rw [if_neg h1] at h
  exact absurd h h1
theorem graph_le {m:ModelD} (hl:(msgB (modelF m)).length ≤ 4194304):(msgB (graphF m)).length ≤ (msgB (modelF m)).length:=blk_le (l:=modelF m) (num:=7) (by unfold modelF; simp) (by decide) (by decide)
theorem model_wr {m:ModelD} (ho:okM m) (hl:(msgB (modelF m)).length ≤ 4194304):∀ f ∈ modelF m,Wr f:=by
 intro f hf
 have hg:=graph_le hl
 unfold modelF at hf
 simp only [List.mem_cons,List.not_mem_nil,or_false] at hf
 rcases hf with rfl | rfl | rfl
 ·exact wr_num (by decide) (by decide) (by decide) (by decide)
 ·exact wr_blk (by decide) (by decide) (msg_isB7 (graph_wr ho (by omega)) (by omega))
 ·rw [set17_bytes]
  exact wr_blk (by decide) (by decide) (fun c hc => by simp at hc; omega)
theorem sets_one {L:List Fld} (h:allV L 8 = [blkF 8 (msgB [numF 2 17])]) (hl:1 ≤ L.length):setsP L = no3:=by
 refine sets_of (bs:=[msgB [numF 2 17]]) (each_map (xs:=[msgB [numF 2 17]]) (g:=fun b => b) (by rw [h]; rfl) (by simpa using hl)) (fun b hb => ?_) (by decide +kernel)
 simp only [List.mem_cons,List.not_mem_nil,or_false] at hb
 subst hb
 decide +kernel
theorem back7 {m:ModelD} (ho:okM m) (h:(encodeV m).2 = 0):decodeV (encodeV m).1 = (m,0):=by
 obtain ⟨hw,hl,he⟩:=encode_ok h
 rw [he]
 simp only
 have hf:=fields_msg (model_wr ho hl) hl
 have hgl:=graph_le hl
 have hgf:=fields_msg (graph_wr ho (by omega)) (by omega:(msgB (graphF m)).length ≤ 4194304)
 have p:∀ num:Int,allV (modelF m) num = (if 1 = num then [numF 1 8] else []) ++ ((if 7 = num then [blkF 7 (msgB (graphF m))] else []) ++ (if 8 = num then [blkF 8 (msgB [numF 2 17])] else [])):=fun num => by
  unfold modelF
  rw [pk_cons,pk_cons,pk_one]
  rfl
 refine decode_of hl hf ?_ (message_one (by rw [p]; simp)) (graph_of ho hw (by omega) hgf (fun _ _ => rfl)) (sets_one (by rw [p]; simp) (by unfold modelF; simp)) (modelW_no hw).1
 rw [whole_one (x:=8) (by rw [p]; simp)]
def Odd7 (u:Fld):Prop:=Wr u ∧ 100 ≤ u.1
theorem odd_pk {u:Fld} (h:Odd7 u) {num:Int} (hn:num < 100):allV [u] num = []:=by
 rw [pk_one,if_neg (by have:=h.2; omega)]
theorem msg_appO (l m:List Fld):msgB (l ++ m) = msgB l ++ msgB m:=by simp [msgB]
theorem skips7 {m:ModelD} {u:Fld} (ho:okM m) (h:(encodeV m).2 = 0) (hu:Odd7 u) (hc:(msgB ([u] ++ [blkF 7 (msgB ([u] ++ graphF m ++ [u]))] ++ [u] ++ [blkF 8 (msgB ([numF 2 17] ++ [u]))])).length ≤ 4194304) :
  decodeV (msgB ([u] ++ [blkF 7 (msgB ([u] ++ graphF m ++ [u]))] ++ [u] ++ [blkF 8 (msgB ([numF 2 17] ++ [u]))])) = (m,0):=by
 obtain ⟨hw,hl,he⟩:=encode_ok h
 have hgl:=graph_le hl
 have hg1:(msgB ([u] ++ graphF m ++ [u])).length ≤ 4194304:=blk_mem (k:=7) (by simp) hc (by decide) (by decide)
 have hg8:(msgB ([numF 2 17] ++ [u])).length ≤ 4194304:=blk_mem (k:=8) (by simp) hc (by decide) (by decide)
 have hgw:∀ f ∈ [u] ++ graphF m ++ [u],Wr f:=fun f hf => by
  simp only [List.mem_append,List.mem_singleton] at hf
  rcases hf with (rfl | hf) | rfl
  ·exact hu.1
  ·exact graph_wr ho (by omega) f hf
  ·exact hu.1
 have h8w:∀ f ∈ [numF 2 17] ++ [u],Wr f:=fun f hf => by
  simp only [List.mem_append,List.mem_singleton] at hf
  rcases hf with rfl | rfl
  ·exact wr_num (by decide) (by decide) (by decide) (by decide)
  ·exact hu.1
 have hf:=fields_msg (l:=[u] ++ [blkF 7 (msgB ([u] ++ graphF m ++ [u]))] ++ [u] ++ [blkF 8 (msgB ([numF 2 17] ++ [u]))]) (fun f hf => by
  simp only [List.mem_append,List.mem_singleton] at hf
  rcases hf with ((rfl | rfl) | rfl) | rfl
  ·exact hu.1
  ·exact wr_blk (by decide) (by decide) (msg_isB7 hgw (by omega))
  ·exact hu.1
  ·exact wr_blk (by decide) (by decide) (msg_isB7 h8w (by omega))) hc
 have hgf:=fields_msg hgw hg1
 have h8f:=fields_msg h8w hg8
 have p:∀ num:Int,num < 100 → allV ([u] ++ [blkF 7 (msgB ([u] ++ graphF m ++ [u]))] ++ [u] ++ [blkF 8 (msgB ([numF 2 17] ++ [u]))]) num = (if 7 = num then [blkF 7 (msgB ([u] ++ graphF m ++ [u]))] else []) ++ (if 8 = num then [blkF 8 (msgB ([numF 2 17] ++ [u]))] else []):=fun num hn => by
  rw [pk_app,pk_app,pk_app,odd_pk hu hn,pk_one,pk_one,List.nil_append,List.append_nil]
  rfl
 refine decode_of hc hf ?_ (message_one (by rw [p _ (by decide)]; simp)) (graph_of ho hw (by omega) hgf (fun num hn => ?_)) ?_ (modelW_no hw).1
 ·rw [whole_none (by rw [p _ (by decide)]; simp)]
 ·have hn2:num < 100:=by omega
  rw [pk_app,pk_app,odd_pk hu hn2]
  simp
 ·have p1:allV ([numF 2 17] ++ [u]) 1 = []:=by rw [pk_app,odd_pk hu (by decide),pk_one]; rfl
  have p2:allV ([numF 2 17] ++ [u]) 2 = [numF 2 17]:=by rw [pk_app,odd_pk hu (by decide),pk_one]; rfl
  refine sets_of (bs:=[msgB ([numF 2 17] ++ [u])]) (each_map (xs:=[msgB ([numF 2 17] ++ [u])]) (g:=fun b => b) (by rw [p _ (by decide)]; simp) (by simp)) (fun b hb => ?_) ?_
  ·simp only [List.mem_cons,List.not_mem_nil,or_false] at hb
   subst hb
   rw [h8f]
   exact ⟨rfl,by rw [text_none p1],by rw [whole_one p2]⟩
  ·unfold versF
   rw [h8f]
   simp only
   rw [text_none p1,whole_one p2]
   decide +kernel
theorem i64w_B (x:Int):i64B (i64w x):=by
 unfold i64B i64w
 rw [IntKind.wrap_i64]
 omega
def OkL (l:List Fld):Prop:=∀ f ∈ l,okF f
theorem fields_ok {b:List Int} (hb:isB b):OkL (fieldsP b).1:=by
 intro f hf
 unfold fieldsP readV at hf
 split at hf
 ·cases hf
 ·cases hl:readL b with
  | none => rw [hl] at hf; cases hf
  | some l =>
    rw [hl] at hf
    exact ((readF_may _ b l hb hl).1 f hf).2
theorem all_ok {l:List Fld} (h:OkL l) (num:Int):OkL (allV l num):=fun f hf => h f (List.mem_filter.1 hf).1
theorem noFld_ok:okF noFld:=⟨by decide,by decide,fun c hc => by cases hc⟩
theorem getD_ok {l:List Fld} (h:OkL l) (n:Nat):okF (l.getD n noFld):=by
 rw [List.getD_eq_getElem?_getD]
 cases hg:l[n]? with
 | none => exact noFld_ok
 | some f => exact h f (List.mem_of_getElem? hg)
theorem last_ok {l:List Fld} (h:OkL l) (num wire:Int):okF (lastV l num wire).1:=by
 unfold lastV
 split
 ·exact noFld_ok
 ·split
  ·exact noFld_ok
  ·exact getD_ok (all_ok h num) _
theorem text_ok {l:List Fld} (h:OkL l) (num:Int):isB (textP l num).1:=(last_ok h num 2).2.2
theorem name_ok {l:List Fld} (h:OkL l) {num:Int} {s:Str} (e:nameP l num = (s,no3)):isB s ∧ s.length ≤ 256:=by
 unfold nameP at e
 simp only [Prod.mk.injEq] at e
 obtain ⟨rfl,e2⟩:=e
 have:=big3_eq (f3_eq_no e2).2
 simp only [decide_eq_false_iff_not] at this
 exact ⟨text_ok h num,by omega⟩
theorem message_ok {l:List Fld} (h:OkL l) (num:Int):isB (messageP l num).1.1:=by
 unfold messageP joinV
 simp only
 split
 ·exact fun c hc => by cases hc
 ·exact isB_flatO (fun f hf => (all_ok h num f hf).2.2)
theorem each_ok {l:List Fld} (h:OkL l) (num:Int) (most:Nat):∀ b ∈ (eachP l num most).1,isB b:=by
 intro b hb
 obtain ⟨f,hf,rfl⟩:=List.mem_map.1 hb
 exact (all_ok h num f hf).2.2
theorem each_len {l:List Fld} {num:Int} {most:Nat} {bs:List (List Int)} (e:eachP l num most = (bs,no3)):bs.length ≤ most:=by
 unfold eachP at e
 simp only [Prod.mk.injEq] at e
 obtain ⟨rfl,e2⟩:=e
 have:=big3_eq (f3_eq_no e2).2
 simp only [decide_eq_false_iff_not] at this
 rw [List.length_map]
 omega
theorem names_ok {l:List Fld} (h:OkL l) {num:Int} {ss:List Str} (e:namesP l num = (ss,no3)):ss.length ≤ 64 ∧ ∀ s ∈ ss,isB s ∧ s.length ≤ 256:=by
 unfold namesP at e
 simp only [Prod.mk.injEq] at e
 obtain ⟨rfl,e2⟩:=e
 obtain ⟨e3,e4⟩:=f3_eq_no e2
 have h1:=each_len (l:=l) (num:=num) (most:=64) (bs:=(eachP l num 64).1) (Prod.ext rfl e3)
 have h2:=big3_eq e4
 rw [List.any_eq_false] at h2
 exact ⟨h1,fun s hs => ⟨each_ok h num 64 s hs,by have:=h2 s hs; simp at this; omega⟩⟩
theorem ints_ok (l:List Fld) (num:Int):∀ x ∈ (intsP l num).1,i64B x:=by
 intro x hx
 obtain ⟨y,_,rfl⟩:=List.mem_map.1 hx
 exact i64w_B y
theorem le4 {d:List Int} (h:isB d) (hl:d.length ≤ 4):0 ≤ leV d ∧ leV d < 4294967296:=by
 obtain ⟨h0,h1⟩:=leV_range d h
 refine ⟨h0,Int.lt_of_lt_of_le h1 ?_⟩
 have:(256:Int) ^ d.length ≤ 256 ^ 4:=by
  have:=Nat.pow_le_pow_right (show 0 < 256 by decide) hl
  have h3:((256 ^ d.length:Nat):Int) ≤ ((256 ^ 4:Nat):Int):=Int.ofNat_le.2 this
  simpa using h3
 have e:(256:Int) ^ 4 = 4294967296:=by decide
 omega
theorem allOr_all {g:Fld → Option (List Int)} {p:Int → Prop}:∀ {l:List Fld} {xs:List Int},(∀ f ∈ l,∀ ys,g f = some ys → ∀ y ∈ ys,p y) → allOr g l = some xs → ∀ y ∈ xs,p y
 | [],xs,_,h => by simp only [allOr,Option.some.injEq] at h; subst h; intro y hy; cases hy
 | f :: r,xs,hp,h => by
   simp only [allOr] at h
   cases hg:g f with
   | none => rw [hg] at h; cases h
   | some a =>
     rw [hg] at h
     simp only at h
     cases hr:allOr g r with
     | none => rw [hr] at h; cases h
     | some b =>
       rw [hr] at h
       simp only [Option.map_some,Option.some.injEq] at h
       subst h
       intro y hy
       rcases List.mem_append.1 hy with h1 | h1
       ·exact hp f (by simp) a hg y h1
       ·exact allOr_all (fun f' hf' => hp f' (by simp [hf'])) hr y h1
theorem floats_ok {l:List Fld} (h:OkL l) (num:Int):∀ x ∈ (floatsP l num).1,0 ≤ x ∧ x < 4294967296:=by
 intro x hx
 unfold floatsP listV at hx
 cases hr:allOr fix1 (allV l num) with
 | none => rw [hr] at hx; cases hx
 | some xs =>
   rw [hr] at hx
   refine allOr_all (p:=fun x => 0 ≤ x ∧ x < 4294967296) (fun f hf ys hy y hy2 => ?_) hr x hx
   have hfo:=all_ok h num f hf
   unfold fix1 at hy
   split at hy
   ·simp only [Option.some.injEq] at hy; subst hy
    simp only [List.mem_singleton] at hy2
    omega
   ·split at hy
    ·simp only [Option.some.injEq] at hy; subst hy
     unfold fours at hy2
     obtain ⟨i,_,rfl⟩:=List.mem_map.1 hy2
     exact le4 (isB_take (isB_drop hfo.2.2 _) 4) (by simp; omega)
    ·cases hy
theorem raw_ok {t n:Int} {b:List Int} {r:List Int × List Int × List Bool} (hb:isB b) (e:rawP t n b = (r,no3)):(∀ x ∈ r.1,0 ≤ x ∧ x < 4294967296) ∧ (∀ x ∈ r.2.1,i64B x) ∧ (n = n.toNat → (t = 1 → r.1.length = n.toNat ∧ r.2.1 = [] ∧ r.2.2 = []) ∧ (t = 7 → r.1 = [] ∧ r.2.1.length = n.toNat ∧ r.2.2 = []) ∧ (t = 9 → r.1 = [] ∧ r.2.1 = [] ∧ r.2.2.length = n.toNat)):=by
 unfold rawP at e
 split at e
 ·simp only at e
  split at e
  ·rename_i h1
   simp only [Prod.mk.injEq] at e
   obtain ⟨rfl,_⟩:=e
   refine ⟨fun x hx => ?_,fun x hx => (by cases hx),fun _ => ⟨fun _ => ⟨by simp,rfl,rfl⟩,fun h7 => by omega,fun h9 => by omega⟩⟩
   obtain ⟨y,_,rfl⟩:=List.mem_map.1 hx
   omega
  ·split at e
   ·rename_i h1 h7
    simp only [Prod.mk.injEq] at e
    obtain ⟨rfl,_⟩:=e
    refine ⟨fun x hx => (by cases hx),fun x hx => ?_,fun _ => ⟨fun h => by omega,fun _ => ⟨rfl,by simp,rfl⟩,fun h9 => by omega⟩⟩
    obtain ⟨y,_,rfl⟩:=List.mem_map.1 hx
    exact i64w_B y
   ·rename_i h1 h7
    simp only [Prod.mk.injEq] at e
    obtain ⟨rfl,_⟩:=e
    exact ⟨fun x hx => (by cases hx),fun x hx => (by cases hx),fun _ => ⟨fun h => by omega,fun h => by omega,fun _ => ⟨rfl,rfl,by simp⟩⟩⟩
 ·simp only [Prod.mk.injEq] at e
  exact absurd (bad3_eq e.2) (by decide)
theorem elements_ok {t n:Int} {l:List Fld} {r:List Int × List Int × List Bool} (h:OkL l) (hk:knownB t = true) (hn:0 ≤ n) (e:elementsP t n l = (r,no3)):(∀ x ∈ r.1,0 ≤ x ∧ x < 4294967296) ∧ (∀ x ∈ r.2.1,i64B x) ∧ (t = 1 → (r.1.length:Int) = n ∧ r.2.1 = [] ∧ r.2.2 = []) ∧ (t = 7 → r.1 = [] ∧ (r.2.1.length:Int) = n ∧ r.2.2 = []) ∧ (t = 9 → r.1 = [] ∧ r.2.1 = [] ∧ (r.2.2.length:Int) = n):=by
 unfold elementsP at e
 simp only at e
 split at e
 ·simp only [Prod.mk.injEq] at e
  obtain ⟨e1,e2⟩:=e
  have e3:=(f3_eq_no (f3_eq_no e2).2).2
  obtain ⟨g1,g2,g3⟩:=raw_ok (getD_ok (all_ok h 9) _).2.2 (Prod.ext e1 e3)
  obtain ⟨g4,g5,g6⟩:=g3 (by omega)
  refine ⟨g1,g2,fun ht => ?_,fun ht => ?_,fun ht => ?_⟩
  ·obtain ⟨a,b,c⟩:=g4 ht; exact ⟨by omega,b,c⟩
  ·obtain ⟨a,b,c⟩:=g5 ht; exact ⟨a,by omega,c⟩
  ·obtain ⟨a,b,c⟩:=g6 ht; exact ⟨a,b,by omega⟩
 ·split at e
  ·rename_i h1
   simp only [Prod.mk.injEq] at e
   obtain ⟨rfl,e2⟩:=e
   have e3:=bad3_eq (f3_eq_no e2).2
   simp only [decide_eq_false_iff_not,not_or,Decidable.not_not] at e3
   exact ⟨floats_ok h 4,fun x hx => (by cases hx),fun _ => ⟨e3.1,rfl,rfl⟩,fun h7 => by omega,fun h9 => by omega⟩
  ·split at e
   ·rename_i h1 h7
    simp only [Prod.mk.injEq] at e
    obtain ⟨rfl,e2⟩:=e
    have e3:=bad3_eq (f3_eq_no e2).2
    simp only [decide_eq_false_iff_not,not_or,Decidable.not_not] at e3
    exact ⟨fun x hx => (by cases hx),ints_ok l 7,fun h => by omega,fun _ => ⟨rfl,e3.1,rfl⟩,fun h9 => by omega⟩
   ·rename_i h1 h7
    simp only [Prod.mk.injEq] at e
    obtain ⟨rfl,e2⟩:=e
    have e3:=bad3_eq (f3_eq_no (f3_eq_no e2).2).2
    simp only [decide_eq_false_iff_not,not_or,Decidable.not_not] at e3
    exact ⟨fun x hx => (by cases hx),fun x hx => (by cases hx),fun h => by omega,fun h => by omega,fun _ => ⟨rfl,rfl,by simp only [boolsP,List.length_map]; exact e3.1⟩⟩
theorem tensW_of {t:TenD} (hk:knownB t.1 = true) (hc:(countV t.2.1).2 = 0) (h1:t.1 = 1 → (t.2.2.1.length:Int) = (countV t.2.1).1 ∧ t.2.2.2.1 = [] ∧ t.2.2.2.2 = []) (h7:t.1 = 7 → t.2.2.1 = [] ∧ (t.2.2.2.1.length:Int) = (countV t.2.1).1 ∧ t.2.2.2.2 = []) (h9:t.1 = 9 → t.2.2.1 = [] ∧ t.2.2.2.1 = [] ∧ (t.2.2.2.2.length:Int) = (countV t.2.1).1):tensW t = no3:=by
 have hh:((hasT t).1:Int) = (countV t.2.1).1 ∧ (hasT t).2 = 0:=by
  obtain ⟨ty,ds,fs,is,bs⟩:=t
  simp only at hk hc h1 h7 h9 ⊢
  rcases known_cases hk with rfl | rfl | rfl
  ·obtain ⟨a,rfl,rfl⟩:=h1 rfl
   exact ⟨by simpa [hasT] using a,by simp [hasT]⟩
  ·obtain ⟨rfl,a,rfl⟩:=h7 rfl
   exact ⟨by simpa [hasT] using a,by simp [hasT]⟩
  ·obtain ⟨rfl,rfl,a⟩:=h9 rfl
   exact ⟨by simpa [hasT] using a,by simp [hasT]⟩
 unfold tensW
 rw [hk,if_neg (by decide)]
 unfold dimsW
 rw [hc]
 have:decide (((hasT t).1:Int) ≠ (countV t.2.1).1 ∨ 0 < (hasT t).2) = false:=decide_eq_false (by rw [hh.1,hh.2]; simp)
 rw [this]
 rfl
theorem tensor_ok {b:List Int} {x:Str × TenD} (hb:isB b) (e:tensorP b = (x,no3)):isB x.1 ∧ x.1.length ≤ 256 ∧ okT x.2 ∧ tensW x.2 = no3:=by
 have hl:=fields_ok hb
 unfold tensorP at e
 simp only at e
 generalize (fieldsP b).1 = l at e hl
 have main:∀ {y:Str × TenD} {fl more:F3},fl = fAll [(fieldsP b).2,(intsP l 1).2,(dimsP (intsP l 1).1).2,(wholeP l 2).2,bad3 ((wholeP l 2).1 == 0),odd3 ((wholeP l 2).1 != 0 && !knownB (wholeP l 2).1),(eachP l 3 l.length).2,(if 0 < (eachP l 3 l.length).1.length then no3 else (wholeP l 14).2),odd3 (decide (0 < (eachP l 3 l.length).1.length) || (wholeP l 14).1 != 0),(nameP l 8).2,(eachP l 9 l.length).2,(floatsP l 4).2,(intsP l 5).2,(intsP l 7).2] → fl = no3 → knownB (wholeP l 2).1 = true ∧ (countV (intsP l 1).1).2 = 0 ∧ (nameP l 8).2 = no3:=fun hfl h0 => by
  rw [hfl] at h0
  have a1:=bad3_eq (fAll_no h0 (bad3 ((wholeP l 2).1 == 0)) (by simp))
  have a2:=odd3_eq (fAll_no h0 (odd3 ((wholeP l 2).1 != 0 && !knownB (wholeP l 2).1)) (by simp))
  have a3:=fAll_no h0 (nameP l 8).2 (by simp)
  have a4:=fAll_no h0 (dimsP (intsP l 1).1).2 (by simp)
  refine ⟨?_,dimsW_no a4,a3⟩
  simp only [beq_eq_false_iff_ne] at a1
  have a5:((wholeP l 2).1 != 0) = true:=by simp [a1]
  rw [a5] at a2
  simpa using a2
 split at e
 ·rename_i hcond
  simp only [Prod.mk.injEq] at e
  obtain ⟨rfl,e2⟩:=e
  obtain ⟨f1,f2⟩:=f3_eq_no e2
  obtain ⟨k1,k2,k3⟩:=main (y:=(([]:Str),noTen)) (more:=no3) rfl f1
  obtain ⟨n1,n2⟩:=name_ok hl (s:=(nameP l 8).1) (Prod.ext rfl k3)
  have hd:(dimsP (intsP l 1).1).1.1 = (intsP l 1).1:=rfl
  rw [hd] at f2 ⊢
  obtain ⟨g1,g2,g3,g4,g5⟩:=elements_ok (r:=(elementsP (wholeP l 2).1 (countV (intsP l 1).1).1 l).1) hl k1 (countV_pos _) (Prod.ext rfl f2)
  refine ⟨n1,n2,⟨?_,ints_ok l 1,g1,g2⟩,tensW_of k1 k2 g3 g4 g5⟩
  exact i64w_B _
 ·rename_i hcond
  simp only [Prod.mk.injEq] at e
  obtain ⟨k1,k2,k3⟩:=main (y:=(([]:Str),noTen)) (more:=no3) rfl e.2
  exfalso
  apply hcond
  rw [k1]
  unfold dimsP
  rw [k2]
  rfl
theorem no_iff (a b:F3):f3 a b = no3 ↔ a = no3 ∧ b = no3:=⟨f3_eq_no,fun h => by rw [h.1,h.2]; rfl⟩
theorem no_cons (x:F3) (r:List F3):fAll (x :: r) = no3 ↔ x = no3 ∧ fAll r = no3:=by rw [fAll_cons,no_iff]
theorem no_nil:fAll [] = no3:=rfl
theorem no_app (l m:List F3):fAll (l ++ m) = no3 ↔ fAll l = no3 ∧ fAll m = no3:=by rw [fAll_append,no_iff]
theorem no_bad (b:Bool):bad3 b = no3 ↔ b = false:=by cases b <;> simp [bad3,no3]
theorem no_odd (b:Bool):odd3 b = no3 ↔ b = false:=by cases b <;> simp [odd3,no3]
theorem no_big (b:Bool):big3 b = no3 ↔ b = false:=by cases b <;> simp [big3,no3]
theorem no_map {α:Type} (F:α → F3) (l:List α):fAll (l.map F) = no3 ↔ ∀ x ∈ l,F x = no3 :=
 ⟨fun h x hx => fAll_no h _ (List.mem_map.2 ⟨x,hx,rfl⟩),fun h => by
  induction l with
  | nil => rfl
  | cons x r ih => rw [List.map_cons,no_cons]; exact ⟨h x (by simp),ih (fun y hy => h y (by simp [hy]))⟩⟩
def trV (l:List Int):List Bool:=if truthsOK l = true then l.map (· == 1) else []
def stE (kind n:Int) (fl sm nu rw:List Int) (isR:Bool):Ten × Bool :=
 if isR = true then
  if 0 < fl.length + sm.length + nu.length ∨ (rw.length:Int) ≠ n * widthV kind then (noTen,false)
  else if kind = 1 then ((1,[],(List.range n.toNat).map (fun i => (fun x => x % 4294967296) (atP 4 rw i)),[],[]),true)
  else if kind = 7 then ((7,[],[],(List.range n.toNat).map (fun i => i64w (atP 8 rw i)),[]),true)
  else ((9,[],[],[],trV ((List.range n.toNat).map (fun i => i64w (atP 1 rw i)))),truthsOK ((List.range n.toNat).map (fun i => i64w (atP 1 rw i))))
 else if kind = 1 then ((1,[],fl,[],[]),decide ((fl.length:Int) = n ∧ sm.length = 0 ∧ nu.length = 0))
 else if kind = 7 then ((7,[],[],nu,[]),decide ((nu.length:Int) = n ∧ fl.length = 0 ∧ sm.length = 0))
 else ((9,[],[],[],trV sm),decide (truthsOK sm = true ∧ (sm.length:Int) = n ∧ fl.length = 0 ∧ nu.length = 0))
def stL (l:List Fld):Ten × Bool:=stE (wholeP l 2).1 (countV (intsP l 1).1).1 (floatsP l 4).1 (intsP l 5).1 (intsP l 7).1 (lastV l 9 2).1.2.2.2 (lastV l 9 2).2.1
def tensorBF (l:List Fld):F3 :=
 f3 (f3 (f3 (f3 (f3 (f3 (f3 (f3 (f3 (f3 (wholeP l 2).2 (bad3 ((wholeP l 2).1 == 0))) (odd3 (widthV (wholeP l 2).1 == 0))) (bad3 ((lastV l 3 2).2.2 != 0))) (odd3 (lastV l 3 2).2.1)) (wholeP l 14).2) (odd3 ((wholeP l 14).1 != 0))) (nameP l 8).2) (intsP l 1).2) (dimsP (intsP l 1).1).2) (storedF l)
def tensorOn (l:List Fld):Bool:=(countV (intsP l 1).1).2 == 0 && widthV (wholeP l 2).1 != 0
def tensorCF (l:List Fld):F3:=f3 (tensorBF l) (if tensorOn l = true then bad3 (!(stL l).2) else no3)
def tensorC (l:List Fld):InitD:=((nameP l 8).1,((stL l).1.1,(intsP l 1).1,(stL l).1.2.2))
def dimC (b:List Int):Int:=(wholeP (fieldsP b).1 1).1
def dimCF (b:List Int):F3:=f3 (wholeP (fieldsP b).1 1).2 (odd3 (!(lastV (fieldsP b).1 1 0).2.1))
def inL (l:List Fld) (num:Int):List Fld:=(fieldsP (messageP l num).1.1).1
def inF (l:List Fld) (num:Int):F3:=f3 (messageP l num).2 (fieldsP (messageP l num).1.1).2
def inIs (l:List Fld) (num:Int):Bool:=(messageP l num).1.2
def msF (l:List Fld) (num:Int) (F:List Fld → F3):F3:=f3 (bad3 ((allV l num).any fun f => f.2.1 != 2)) (fAll ((dsV l num).map fun b => f3 (fieldsP b).2 (F (fieldsP b).1)))
def valueC (l:List Fld):ValD:=((nameP l 1).1,(wholeP (inL (inL l 2) 1) 1).1,(dsV (inL (inL (inL l 2) 1) 2) 1).map dimC)
def valueCF (l:List Fld):F3 :=
 f3 (f3 (f3 (f3 (f3 (f3 (f3 (f3 (f3 (f3 (inF l 2) (bad3 (!inIs l 2))) (inF (inL l 2) 1)) (odd3 (!inIs (inL l 2) 1))) (inF (inL (inL l 2) 1) 2)) (odd3 (!inIs (inL (inL l 2) 1) 2))) (nameP l 1).2) (wholeP (inL (inL l 2) 1) 1).2)
  (f3 (bad3 ((allV (inL (inL (inL l 2) 1) 2) 1).any fun f => f.2.1 != 2)) (fAll ((dsV (inL (inL (inL l 2) 1) 2) 1).map fun b => f3 (fieldsP b).2 (dimCF b))))) (odd3 (widthV (wholeP (inL (inL l 2) 1) 1).1 == 0))) (dimsP ((dsV (inL (inL (inL l 2) 1) 2) 1).map dimC)).2
def attrC (l:List Fld):AttrD :=
 let k:=(wholeP l 20).1
 let t:TenD:=if inIs l 5 = true then (tensorC (inL l 5)).2 else noTen
 if k = 1 then ((nameP l 1).1,1,(lastF l 2 5).1.2.2.1 % 4294967296,0,[],noTen,[],[])
 else if k = 2 then ((nameP l 1).1,2,0,(wholeP l 3).1,[],noTen,[],[])
 else if k = 3 then ((nameP l 1).1,3,0,0,(textP l 4).1,noTen,[],[])
 else if k = 4 then ((nameP l 1).1,4,0,0,[],t,[],[])
 else if k = 6 then ((nameP l 1).1,6,0,0,[],noTen,(floatsP l 7).1,[])
 else if k = 7 then ((nameP l 1).1,7,0,0,[],noTen,[],(intsP l 8).1)
 else ([],0,0,0,[],noTen,[],[])
def attrCF (l:List Fld):F3 :=
 f3 (f3 (f3 (f3 (f3 (f3 (f3 (f3 (f3 (f3 (f3 (f3 (f3 (f3 (nameP l 1).2 (wholeP l 20).2) (lastF l 2 5).2) (wholeP l 3).2) (textP l 4).2) (floatsP l 7).2) (intsP l 8).2) (big3 (decide (4096 < (textP l 4).1.length)))) (big3 (decide (4096 < (floatsP l 7).1.length)))) (big3 (decide (4096 < (intsP l 8).1.length)))) (inF l 5)) (bad3 (!inIs l 5 && (wholeP l 20).1 == 4))) (if inIs l 5 = true then tensorCF (inL l 5) else no3)) (odd3 (!kindB (wholeP l 20).1))) (bad3 ((wholeP l 20).1 == 0))
def nameF (l:List Fld) (num:Int):F3:=f3 (bad3 ((allV l num).any fun f => f.2.1 != 2)) (fAll ((dsV l num).map fun b => big3 (decide (256 < b.length))))
def nodeC (l:List Fld):NodeD:=((nameP l 4).1,(nameP l 3).1,dsV l 1,dsV l 2,(dsV l 5).map fun b => attrC (fieldsP b).1)
def nodeCF (l:List Fld):F3 :=
 f3 (f3 (f3 (f3 (f3 (f3 (f3 (f3 (f3 (f3 (nameP l 4).2 (nameP l 3).2) (nameF l 1)) (nameF l 2)) (msF l 5 attrCF)) (bad3 (decide ((nameP l 4).1 = [])))) (textP l 7).2) (odd3 (!oursB (textP l 7).1))) (big3 (decide (64 < (dsV l 1).length)))) (big3 (decide (64 < (dsV l 2).length)))) (big3 (decide (64 < (dsV l 5).length)))
def graphC (l:List Fld):ModelD:=(17,(nameP l 2).1,(dsV l 1).map (fun b => nodeC (fieldsP b).1),(dsV l 5).map (fun b => tensorC (fieldsP b).1),(dsV l 11).map (fun b => valueC (fieldsP b).1),(dsV l 12).map (fun b => valueC (fieldsP b).1))
def graphCF (l:List Fld):F3 :=
 f3 (f3 (f3 (f3 (f3 (f3 (f3 (f3 (f3 (f3 (bad3 ((lastV l 15 2).2.2 != 0)) (odd3 (lastV l 15 2).2.1)) (nameP l 2).2) (msF l 1 nodeCF)) (msF l 5 tensorCF)) (msF l 11 valueCF)) (msF l 12 valueCF)) (big3 (decide (1024 < (dsV l 1).length)))) (big3 (decide (1024 < (dsV l 5).length)))) (big3 (decide (64 < (dsV l 11).length)))) (big3 (decide (64 < (dsV l 12).length)))
def setCF (l:List Fld):F3:=f3 (textP l 1).2 (wholeP l 2).2
def modelCF (l:List Fld):F3:=f3 (f3 (f3 (f3 (f3 (wholeP l 1).2 (msF l 8 setCF)) (odd3 (!(versF 0 (dsV l 8) == 17)))) (inF l 7)) (bad3 (!inIs l 7))) (graphCF (inL l 7))
def decodeF (b:List Int):F3:=f3 (fieldsP b).2 (modelCF (fieldsP b).1)
theorem last_no (l:List Fld) (num:Int):bad3 ((lastV l num 2).2.2 != 0) = no3 ↔ (eachP l num l.length).2 = no3:=by
 have hl:¬ l.length < (allV l num).length:=by
  have:=List.length_filter_le (fun f:Fld => f.1 == num) l
  unfold allV; omega
 unfold eachP lastV
 simp only
 rw [no_iff,no_bad,no_bad,no_big]
 by_cases h:(allV l num).any (fun f => f.2.1 != 2) = true
 ·simp [h]
 ·rw [if_neg h]
  simp only [Bool.not_eq_true] at h
  split <;> simp [h,hl]
theorem last_is {l:List Fld} {num:Int} (h:(lastV l num 2).2.2 = 0):(lastV l num 2).2.1 = decide (0 < (allV l num).length) ∧ (0 < (allV l num).length → (lastV l num 2).1 = (allV l num).getD ((allV l num).length - 1) noFld):=by
 unfold lastV at h ⊢
 by_cases h1:(allV l num).any (fun f => f.2.1 != 2) = true
 ·rw [if_pos h1] at h; exact absurd h (by decide)
 ·rw [if_neg h1]
  by_cases h2:(allV l num).length = 0
  ·rw [if_pos h2]; simp [h2]
  ·rw [if_neg h2]; simp; omega
theorem ds_each (l:List Fld) (num:Int) (most:Nat):(eachP l num most).1 = dsV l num:=rfl
theorem ds_len (l:List Fld) (num:Int):(dsV l num).length = (allV l num).length:=by unfold dsV; rw [List.length_map]
theorem width_known (k:Int):(widthV k == 0) = !knownB k:=by
 unfold widthV knownB
 by_cases h1:k = 1
 ·subst h1; rfl
 by_cases h7:k = 7
 ·subst h7; rfl
 by_cases h9:k = 9
 ·subst h9; rfl
 rw [if_neg h1,if_neg h7,if_neg h9]
 have e1:(k == 1) = false:=by simpa using h1
 have e7:(k == 7) = false:=by simpa using h7
 have e9:(k == 9) = false:=by simpa using h9
 rw [e1,e7,e9]; rfl
theorem noTen_ok:okT noTen:=⟨by unfold i64B noTen; simp,fun x hx => (by cases hx),fun x hx => (by cases hx),fun x hx => (by cases hx)⟩
theorem last_x {l:List Fld} (h:OkL l) (num wire:Int):0 ≤ (lastF l num wire).1.2.2.1 % 4294967296 ∧ (lastF l num wire).1.2.2.1 % 4294967296 < 4294967296:=by omega
theorem attrW_of {x:AttrD} (h1:x.1.length ≤ 256) (h2:x.2.1 ≠ 1 → x.2.2.1 = 0) (h3:x.2.1 ≠ 2 → x.2.2.2.1 = 0) (h4:x.2.1 ≠ 3 → x.2.2.2.2.1 = []) (h5:x.2.1 ≠ 4 → x.2.2.2.2.2.1 = noTen) (h6:x.2.1 ≠ 6 → x.2.2.2.2.2.2.1 = []) (h7:x.2.1 ≠ 7 → x.2.2.2.2.2.2.2 = [])
  (h8:x.2.2.2.2.1.length ≤ 4096 ∧ x.2.2.2.2.2.2.1.length ≤ 4096 ∧ x.2.2.2.2.2.2.2.length ≤ 4096) (h9:x.2.1 = 1 ∨ x.2.1 = 2 ∨ x.2.1 = 3 ∨ x.2.1 = 4 ∨ x.2.1 = 6 ∨ x.2.1 = 7) (h10:x.2.1 = 4 → tensW x.2.2.2.2.2.1 = no3):attrW x = no3:=by
 obtain ⟨name,k,f,i,s,t,fl,is⟩:=x
 simp only at h1 h2 h3 h4 h5 h6 h7 h8 h9 h10
 unfold attrW
 refine fAll_of (fun y hy => ?_)
 simp only [List.mem_cons,List.not_mem_nil,or_false] at hy
 rcases hy with h | h | h | h <;> rw [h]
 ·have:decide (256 < name.length) = false:=decide_eq_false (by omega)
  unfold longW; simp only [this]; rfl
 ·have a1:(k != 1 && f != 0) = false:=by by_cases e:k = 1 <;> simp [e]; exact h2 e
  have a2:(k != 2 && i != 0) = false:=by by_cases e:k = 2 <;> simp [e]; exact h3 e
  have a3:(k != 3 && decide (s ≠ [])) = false:=by by_cases e:k = 3 <;> simp [e]; exact h4 e
  have a4:(k != 4 && !emptyT t) = false:=by
   by_cases e:k = 4
   ·simp [e]
   ·rw [h5 e]; simp [emptyT,noTen]
  have a6:(k != 6 && decide (0 < fl.length)) = false:=by by_cases e:k = 6 <;> simp [e]; exact h6 e
  have a7:(k != 7 && decide (0 < is.length)) = false:=by by_cases e:k = 7 <;> simp [e]; exact h7 e
  rw [a1,a2,a3,a4,a6,a7]
  rfl
 ·have:decide (4096 < s.length ∨ 4096 < fl.length ∨ 4096 < is.length) = false:=decide_eq_false (by omega)
  simp only [this]; rfl
 ·by_cases e:k = 4
  ·rw [if_neg (by omega),if_pos e]; exact h10 e
  ·rw [if_pos (by omega)]
theorem attr_ok {b:List Int} {x:AttrD} (hb:isB b) (e:attrP b = (x,no3)):okA x ∧ attrW x = no3:=by
 have hl:=fields_ok hb
 unfold attrP at e
 simp only at e
 generalize hL:(fieldsP b).1 = l at e hl
 generalize ht:(if (messageP l 5).1.2 = true then ((tensorP (messageP l 5).1.1).1.2,(tensorP (messageP l 5).1.1).2) else (noTen,no3):Rd7 TenD) = T at e
 have main:∀ {fl:F3},fl = fAll [(fieldsP b).2,(nameP l 1).2,(lastF l 2 5).2,(wholeP l 3).2,(textP l 4).2,(messageP l 5).2,(floatsP l 7).2,(intsP l 8).2,T.2,big3 (decide (4096 < (textP l 4).1.length ∨ 4096 < (floatsP l 7).1.length ∨ 4096 < (intsP l 8).1.length)),(wholeP l 20).2] → fl = no3 → (isB (nameP l 1).1 ∧ (nameP l 1).1.length ≤ 256) ∧ T.2 = no3 ∧ (textP l 4).1.length ≤ 4096 ∧ (floatsP l 7).1.length ≤ 4096 ∧ (intsP l 8).1.length ≤ 4096:=fun hfl h0 => by
  rw [hfl] at h0
  have a1:=fAll_no h0 (nameP l 1).2 (by simp)
  have a2:=fAll_no h0 T.2 (by simp)
  have a3:=big3_eq (fAll_no h0 (big3 (decide (4096 < (textP l 4).1.length ∨ 4096 < (floatsP l 7).1.length ∨ 4096 < (intsP l 8).1.length))) (by simp))
  simp only [decide_eq_false_iff_not,not_or] at a3
  exact ⟨name_ok hl (s:=(nameP l 1).1) (Prod.ext rfl a1),a2,by omega,by omega,by omega⟩
 have hnil:∀ x ∈ ([]:List Int),0 ≤ x ∧ x < 4294967296:=fun x hx => (by cases hx)
 have hnil2:∀ x ∈ ([]:List Int),i64B x:=fun x hx => (by cases hx)
 have hnb:isB ([]:List Int):=fun x hx => (by cases hx)
 have z0:i64B 0:=by unfold i64B; omega
 have zf:(0:Int) ≤ 0 ∧ (0:Int) < 4294967296:=by omega
 split at e
 ·simp only [Prod.mk.injEq] at e
  exact absurd (bad3_eq (f3_eq_no e.2).2) (by decide)
 ·split at e
  ·simp only [Prod.mk.injEq] at e
   obtain ⟨rfl,e2⟩:=e
   obtain ⟨⟨n1,n2⟩,t1,t2,t3,t4⟩:=main rfl e2
   exact ⟨⟨n1,by unfold i64B; simp,last_x hl 2 5,z0,hnb,noTen_ok,hnil,hnil2⟩,attrW_of n2 (fun h => absurd rfl h) (fun _ => rfl) (fun _ => rfl) (fun _ => rfl) (fun _ => rfl) (fun _ => rfl) ⟨by simp,by simp,by simp⟩ (.inl rfl) (fun h => by simp at h)⟩
  ·split at e
   ·simp only [Prod.mk.injEq] at e
    obtain ⟨rfl,e2⟩:=e
    obtain ⟨⟨n1,n2⟩,t1,t2,t3,t4⟩:=main rfl e2
    exact ⟨⟨n1,by unfold i64B; simp,zf,i64w_B _,hnb,noTen_ok,hnil,hnil2⟩,attrW_of n2 (fun _ => rfl) (fun h => absurd rfl h) (fun _ => rfl) (fun _ => rfl) (fun _ => rfl) (fun _ => rfl) ⟨by simp,by simp,by simp⟩ (.inr (.inl rfl)) (fun h => by simp at h)⟩
   ·split at e
    ·simp only [Prod.mk.injEq] at e
     obtain ⟨rfl,e2⟩:=e
     obtain ⟨⟨n1,n2⟩,t1,t2,t3,t4⟩:=main rfl e2
     exact ⟨⟨n1,by unfold i64B; simp,zf,z0,text_ok hl 4,noTen_ok,hnil,hnil2⟩,attrW_of n2 (fun _ => rfl) (fun _ => rfl) (fun h => absurd rfl h) (fun _ => rfl) (fun _ => rfl) (fun _ => rfl) ⟨t2,by simp,by simp⟩ (.inr (.inr (.inl rfl))) (fun h => by simp at h)⟩
    ·split at e
     ·simp only [Prod.mk.injEq] at e
      obtain ⟨rfl,e2⟩:=e
      obtain ⟨e3,e4⟩:=f3_eq_no e2
      obtain ⟨⟨n1,n2⟩,t1,t2,t3,t4⟩:=main rfl e3
      have hm:(messageP l 5).1.2 = true:=by simpa using bad3_eq e4
      rw [if_pos hm] at ht
      subst ht
      obtain ⟨_,_,k1,k2⟩:=tensor_ok (x:=(tensorP (messageP l 5).1.1).1) (message_ok hl 5) (Prod.ext rfl t1)
      exact ⟨⟨n1,by unfold i64B; simp,zf,z0,hnb,k1,hnil,hnil2⟩,attrW_of n2 (fun _ => rfl) (fun _ => rfl) (fun _ => rfl) (fun h => absurd rfl h) (fun _ => rfl) (fun _ => rfl) ⟨by simp,by simp,by simp⟩ (.inr (.inr (.inr (.inl rfl)))) (fun _ => k2)⟩
     ·split at e
      ·simp only [Prod.mk.injEq] at e
       obtain ⟨rfl,e2⟩:=e
       obtain ⟨⟨n1,n2⟩,t1,t2,t3,t4⟩:=main rfl e2
       exact ⟨⟨n1,by unfold i64B; simp,zf,z0,hnb,noTen_ok,floats_ok hl 7,hnil2⟩,attrW_of n2 (fun _ => rfl) (fun _ => rfl) (fun _ => rfl) (fun _ => rfl) (fun h => absurd rfl h) (fun _ => rfl) ⟨by simp,t3,by simp⟩ (.inr (.inr (.inr (.inr (.inl rfl))))) (fun h => by simp at h)⟩
      ·split at e
       ·simp only [Prod.mk.injEq] at e
        obtain ⟨rfl,e2⟩:=e
        obtain ⟨⟨n1,n2⟩,t1,t2,t3,t4⟩:=main rfl e2
        exact ⟨⟨n1,by unfold i64B; simp,zf,z0,hnb,noTen_ok,hnil,ints_ok l 8⟩,attrW_of n2 (fun _ => rfl) (fun _ => rfl) (fun _ => rfl) (fun _ => rfl) (fun _ => rfl) (fun h => absurd rfl h) ⟨by simp,by simp,t4⟩ (.inr (.inr (.inr (.inr (.inr rfl))))) (fun h => by simp at h)⟩
       ·simp only [Prod.mk.injEq] at e
        exact absurd (odd3_eq (f3_eq_no e.2).2) (by decide)
theorem node_ok {b:List Int} {n:NodeD} (hb:isB b) (e:nodeP b = (n,no3)):okN n ∧ nodeW n = no3:=by
 have hl:=fields_ok hb
 unfold nodeP at e
 simp only [Prod.mk.injEq] at e
 obtain ⟨rfl,e2⟩:=e
 generalize (fieldsP b).1 = l at e2 hl
 have a1:=fAll_no e2 (nameP l 4).2 (by simp)
 have a2:=fAll_no e2 (nameP l 3).2 (by simp)
 have a3:=fAll_no e2 (namesP l 1).2 (by simp)
 have a4:=fAll_no e2 (namesP l 2).2 (by simp)
 have a5:=bad3_eq (fAll_no e2 (bad3 (decide ((nameP l 4).1 = []))) (by simp))
 have a6:=fAll_no e2 (eachP l 5 64).2 (by simp)
 have a7:∀ x ∈ (eachP l 5 64).1,(attrP x).2 = no3:=fun x hx => fAll_no e2 _ (List.mem_append_right _ (List.mem_map.2 ⟨x,hx,rfl⟩))
 obtain ⟨b1,b2⟩:=name_ok hl (s:=(nameP l 4).1) (Prod.ext rfl a1)
 obtain ⟨b3,b4⟩:=name_ok hl (s:=(nameP l 3).1) (Prod.ext rfl a2)
 obtain ⟨b5,b6⟩:=names_ok hl (ss:=(namesP l 1).1) (Prod.ext rfl a3)
 obtain ⟨b7,b8⟩:=names_ok hl (ss:=(namesP l 2).1) (Prod.ext rfl a4)
 have b9:=each_len (bs:=(eachP l 5 64).1) (Prod.ext rfl a6)
 have b10:∀ x ∈ (eachP l 5 64).1,okA (attrP x).1 ∧ attrW (attrP x).1 = no3:=fun x hx => attr_ok (each_ok hl 5 64 x hx) (Prod.ext rfl (a7 x hx))
 refine ⟨⟨b1,b3,fun s hs => (b6 s hs).1,fun s hs => (b8 s hs).1,fun a ha => ?_⟩,?_⟩
 ·obtain ⟨x,hx,rfl⟩:=List.mem_map.1 ha
  exact (b10 x hx).1
 ·unfold nodeW
  refine fAll_of (fun y hy => ?_)
  simp only [List.mem_append,List.mem_cons,List.not_mem_nil,or_false,List.mem_map] at hy
  rcases hy with ((h | ⟨s,hs,h⟩) | ⟨s,hs,h⟩) | ⟨a,⟨x,hx,hax⟩,h⟩
  ·rcases h with h | h | h | h <;> rw [h]
   ·unfold longW; rw [decide_eq_false (by omega)]; rfl
   ·unfold longW; rw [decide_eq_false (by omega)]; rfl
   ·rw [a5]; rfl
   ·rw [decide_eq_false (by rw [List.length_map]; omega)]; rfl
  ·rw [← h]; unfold longW; rw [decide_eq_false (by have:=(b6 s hs).2; omega)]; rfl
  ·rw [← h]; unfold longW; rw [decide_eq_false (by have:=(b8 s hs).2; omega)]; rfl
  ·rw [← h,← hax]; exact (b10 x hx).2
theorem shape_ok {b:List Int} {d:List Int} (hb:isB b) (e:shapeP b = (d,no3)):(∀ x ∈ d,i64B x) ∧ dimsW d = no3:=by
 unfold shapeP at e
 simp only [Prod.mk.injEq] at e
 obtain ⟨rfl,e2⟩:=e
 refine ⟨fun x hx => ?_,?_⟩
 ·have hx2:x ∈ (eachP (fieldsP b).1 1 (fieldsP b).1.length).1.map fun x => (dimP x).1:=hx
  obtain ⟨y,_,rfl⟩:=List.mem_map.1 hx2
  exact i64w_B _
 ·exact fAll_no e2 (dimsP ((eachP (fieldsP b).1 1 (fieldsP b).1.length).1.map fun x => (dimP x).1)).2 (by simp)
theorem shape_ok2 {b:List Int} (hb:isB b) (e:(shapeP b).2 = no3):(∀ x ∈ (shapeP b).1,i64B x) ∧ dimsW (shapeP b).1 = no3:=by
 generalize hd:shapeP b = r at e ⊢
 obtain ⟨d,f⟩:=r
 simp only at e ⊢
 subst e
 exact shape_ok hb hd
theorem value_ok {b:List Int} {v:ValD} (hb:isB b) (e:valueP b = (v,no3)):okV v ∧ valW v = no3:=by
 have hl:=fields_ok hb
 unfold valueP at e
 simp only at e
 split at e
 ·simp only [Prod.mk.injEq] at e
  exact absurd (bad3_eq (f3_eq_no e.2).2) (by decide)
 ·split at e
  ·simp only [Prod.mk.injEq] at e
   exact absurd (odd3_eq (f3_eq_no e.2).2) (by decide)
  ·split at e
   ·simp only [Prod.mk.injEq] at e
    exact absurd (odd3_eq (f3_eq_no e.2).2) (by decide)
   ·simp only [Prod.mk.injEq] at e
    obtain ⟨rfl,e2⟩:=e
    obtain ⟨e3,e4⟩:=f3_eq_no e2
    have c1:=fAll_no e3 _ (by simp only [List.mem_cons]; exact .inl rfl)
    have c2:=fAll_no c1 _ (by simp only [List.mem_cons]; exact .inl rfl)
    have c3:=fAll_no c2 (nameP (fieldsP b).1 1).2 (by simp)
    obtain ⟨n1,n2⟩:=name_ok hl (s:=(nameP (fieldsP b).1 1).1) (Prod.ext rfl c3)
    have hs:=message_ok hl 2
    generalize (messageP (fieldsP b).1 2).1.1 = sb at e3 e4 hs ⊢
    have ht:=message_ok (fields_ok hs) 1
    generalize (messageP (fieldsP sb).1 1).1.1 = tb at e3 e4 ht ⊢
    have hb3:=message_ok (fields_ok ht) 2
    generalize (fieldsP tb).1 = f at e3 e4 hb3 ⊢
    obtain ⟨s1,s2⟩:=shape_ok2 hb3 e4
    have k:=odd3_eq (fAll_no e3 (odd3 (!knownB (wholeP f 1).1)) (List.mem_cons_of_mem _ (List.mem_cons_of_mem _ (List.mem_cons_of_mem _ List.mem_cons_self))))
    generalize (shapeP (messageP f 2).1.1).1 = d at s1 s2 ⊢
    have hk:=i64w_B (lastV f 1 0).1.2.2.1
    refine ⟨⟨n1,hk,s1⟩,?_⟩
    unfold valW
    refine fAll_of (fun y hy => ?_)
    simp only [List.mem_cons,List.not_mem_nil,or_false] at hy
    rcases hy with h | h | h <;> rw [h]
    ·unfold longW; rw [decide_eq_false (by omega)]; rfl
    ·rw [k]; rfl
    ·exact s2
theorem values_ok {l:List Fld} {num:Int} {vs:List ValD} (hl:OkL l) (e:valuesP l num = (vs,no3)):(∀ v ∈ vs,okV v) ∧ valuesW vs = no3:=by
 unfold valuesP at e
 simp only [Prod.mk.injEq] at e
 obtain ⟨rfl,e2⟩:=e
 have a1:=fAll_no e2 (eachP l num 64).2 (by simp)
 have a2:=each_len (bs:=(eachP l num 64).1) (Prod.ext rfl a1)
 have a3:∀ x ∈ (eachP l num 64).1,okV (valueP x).1 ∧ valW (valueP x).1 = no3:=fun x hx => value_ok (each_ok hl num 64 x hx) (Prod.ext rfl (fAll_no e2 _ (List.mem_cons_of_mem _ (List.mem_map.2 ⟨x,hx,rfl⟩))))
 refine ⟨fun v hv => ?_,?_⟩
 ·obtain ⟨x,hx,rfl⟩:=List.mem_map.1 hv
  exact (a3 x hx).1
 ·unfold valuesW
  refine fAll_of (fun y hy => ?_)
  rcases List.mem_cons.1 hy with h | h
  ·rw [h,decide_eq_false (by rw [List.length_map]; omega)]; rfl
  ·obtain ⟨v,hv,rfl⟩:=List.mem_map.1 h
   obtain ⟨x,hx,rfl⟩:=List.mem_map.1 hv
   exact (a3 x hx).2
theorem decode_ok {b:List Int} {m:ModelD} (hb:isB b) (e:decodeV b = (m,0)):okM m ∧ modelW m = no3:=by
 have hl:=fields_ok hb
 unfold decodeV at e
 split at e
 ·simp only [Prod.mk.injEq] at e; exact absurd e.2 (by decide)
 ·simp only at e
  split at e
  ·simp only [Prod.mk.injEq] at e; exact absurd e.2 (by decide)
  ·rename_i f1
   split at e
   ·simp only [Prod.mk.injEq] at e; exact absurd e.2 (by decide)
   ·rename_i f2
    split at e
    ·simp only [Prod.mk.injEq] at e; exact absurd e.2 (by decide)
    ·rename_i f3'
     simp only [Prod.mk.injEq] at e
     obtain ⟨rfl,_⟩:=e
     have hno:fAll [(fieldsP b).2,(wholeP (fieldsP b).1 1).2,(messageP (fieldsP b).1 7).2,bad3 (!(messageP (fieldsP b).1 7).1.2),(graphP (messageP (fieldsP b).1 7).1.1).2,setsP (fieldsP b).1] = no3:=by
      generalize fAll [(fieldsP b).2,(wholeP (fieldsP b).1 1).2,(messageP (fieldsP b).1 7).2,bad3 (!(messageP (fieldsP b).1 7).1.2),(graphP (messageP (fieldsP b).1 7).1.1).2,setsP (fieldsP b).1] = w at f1 f2 f3'
      obtain ⟨a,b,c⟩:=w
      have e1:a = false:=by simpa using f1
      have e2:b = false:=by simpa using f2
      have e3:c = false:=by simpa using f3'
      subst e1 e2 e3
      rfl
     have hg:=fAll_no hno (graphP (messageP (fieldsP b).1 7).1.1).2 (by simp)
     have hgb:=message_ok hl 7
     generalize (messageP (fieldsP b).1 7).1.1 = gb at hg hgb ⊢
     have hgl:=fields_ok hgb
     unfold graphP at hg ⊢
     simp only at hg ⊢
     generalize (fieldsP gb).1 = l at hg hgl ⊢
     have a1:=fAll_no hg (nameP l 2).2 (by simp)
     have a2:=fAll_no hg (eachP l 1 1024).2 (by simp)
     have a3:=fAll_no hg (eachP l 5 1024).2 (by simp)
     have a4:=fAll_no hg (valuesP l 11).2 (by simp)
     have a5:=fAll_no hg (valuesP l 12).2 (by simp)
     have a6:∀ x ∈ (eachP l 1 1024).1,(nodeP x).2 = no3:=fun x hx => fAll_no hg _ (by simp only [List.mem_append,List.mem_map]; exact .inl (.inl (.inl (.inr ⟨x,hx,rfl⟩))))
     have a7:∀ x ∈ (eachP l 5 1024).1,(tensorP x).2 = no3:=fun x hx => fAll_no hg _ (by simp only [List.mem_append,List.mem_map]; exact .inl (.inr ⟨x,hx,rfl⟩))
     obtain ⟨b1,b2⟩:=name_ok hgl (s:=(nameP l 2).1) (Prod.ext rfl a1)
     have b3:=each_len (bs:=(eachP l 1 1024).1) (Prod.ext rfl a2)
     have b4:=each_len (bs:=(eachP l 5 1024).1) (Prod.ext rfl a3)
     obtain ⟨b5,b6⟩:=values_ok hgl (vs:=(valuesP l 11).1) (Prod.ext rfl a4)
     obtain ⟨b7,b8⟩:=values_ok hgl (vs:=(valuesP l 12).1) (Prod.ext rfl a5)
     have b9:∀ x ∈ (eachP l 1 1024).1,okN (nodeP x).1 ∧ nodeW (nodeP x).1 = no3:=fun x hx => node_ok (each_ok hgl 1 1024 x hx) (Prod.ext rfl (a6 x hx))
     have b10:∀ x ∈ (eachP l 5 1024).1,isB (tensorP x).1.1 ∧ (tensorP x).1.1.length ≤ 256 ∧ okT (tensorP x).1.2 ∧ tensW (tensorP x).1.2 = no3:=fun x hx => tensor_ok (each_ok hgl 5 1024 x hx) (Prod.ext rfl (a7 x hx))
     refine ⟨⟨b1,fun n hn => ?_,fun x hx => ?_,b5,b7⟩,?_⟩
     ·obtain ⟨x,hx,rfl⟩:=List.mem_map.1 hn
      exact (b9 x hx).1
     ·obtain ⟨y,hy,rfl⟩:=List.mem_map.1 hx
      exact ⟨(b10 y hy).1,(b10 y hy).2.2.1⟩
     ·unfold modelW
      refine fAll_of (fun y hy => ?_)
      simp only [List.mem_append,List.mem_cons,List.not_mem_nil,or_false,List.mem_map] at hy
      rcases hy with ((h | ⟨n,⟨x,hx,hnx⟩,h⟩) | ⟨c,⟨x,hx,hcx⟩,h⟩) | h
      ·rcases h with h | h | h <;> rw [h]
       ·rfl
       ·unfold longW; rw [decide_eq_false (by omega)]; rfl
       ·rw [decide_eq_false (by simp only [List.length_map]; omega)]; rfl
      ·rw [← h,← hnx]; exact (b9 x hx).2
      ·rw [← h,← hcx,(b10 x hx).2.2.2]
       unfold longW
       rw [decide_eq_false (by have:=(b10 x hx).2.1; omega)]
       rfl
      ·rcases h with h | h <;> rw [h]
       ·exact b6
       ·exact b8
theorem check_ok {b:List Int} {m:ModelD} (hb:isB b) (e:decodeV b = (m,0)):checkM m = 0 ∧ m.1 = 17 ∧ okM m:=by
 obtain ⟨h1,h2⟩:=decode_ok hb e
 refine ⟨?_,(modelW_no h2).1,h1⟩
 unfold checkM
 rw [h2]
 rfl
theorem at1 {rw:List Int} (h:isB rw) (i:Nat):0 ≤ atP 1 rw i ∧ atP 1 rw i < 256:=by
 unfold atP
 have hb:=isB_take (isB_drop h (i * 1)) 1
 have hl:((rw.drop (i * 1)).take 1).length ≤ 1:=by rw [List.length_take]; omega
 generalize (rw.drop (i * 1)).take 1 = s at hb hl
 match s,hb,hl with
 | [],_,_ => simp [leV]
 | [c],hb,_ => have:=hb c (by simp); simp [leV]; omega
 | _ :: _ :: _,_,hl => simp at hl
theorem i64_small {x:Int} (h0:0 ≤ x) (h1:x < 256):i64w x = x:=by
 unfold i64w
 rw [IntKind.wrap_i64]
 omega
theorem truths_iff {l:List Int}:truthsOK l = true ↔ l.any (fun x => x != 0 && x != 1) = false:=by
 unfold truthsOK
 cases l.any (fun x => x != 0 && x != 1) <;> simp
theorem elem_eq {l:List Fld} (hl:OkL l) {t n:Int} (hk:knownB t = true) (hn:0 ≤ n) (h9:(lastV l 9 2).2.2 = 0) :
  ((f3 (floatsP l 4).2 (f3 (intsP l 5).2 (intsP l 7).2) = no3 ∧ (stE t n (floatsP l 4).1 (intsP l 5).1 (intsP l 7).1 (lastV l 9 2).1.2.2.2 (lastV l 9 2).2.1).2 = true) ↔ (elementsP t n l).2 = no3) ∧
   ((elementsP t n l).2 = no3 → (stE t n (floatsP l 4).1 (intsP l 5).1 (intsP l 7).1 (lastV l 9 2).1.2.2.2 (lastV l 9 2).2.1).1 = (t,[],(elementsP t n l).1)):=by
 obtain ⟨i1,i2⟩:=last_is h9
 have hB:isB (lastV l 9 2).1.2.2.2:=(last_ok hl 9 2).2.2
 unfold elementsP
 simp only
 generalize floatsP l 4 = f
 generalize intsP l 5 = s
 generalize intsP l 7 = u
 by_cases hr:0 < (allV l 9).length
 ·rw [if_pos hr,i1,decide_eq_true hr,← i2 hr]
  generalize (lastV l 9 2).1.2.2.2 = rw at hB
  unfold stE
  rw [if_pos rfl]
  by_cases ha:0 < f.1.length + s.1.length + u.1.length
  ·rw [if_pos (.inl ha)]
   simp only [no_iff,no_bad,decide_eq_true ha]
   simp
  ·rw [decide_eq_false ha]
   have hz:(0 < f.1.length + s.1.length + u.1.length ∨ (rw.length:Int) ≠ n * widthV t) ↔ ¬ (rw.length:Int) = n * widthV t:=⟨fun h => h.elim (fun x => absurd x ha) id,.inr⟩
   rcases known_cases hk with rfl | rfl | rfl
   ·have hw:widthV 1 = 4:=rfl
    have hs:((sizeP 1:Nat):Int) = 4:=rfl
    rw [hw] at hz
    rw [hw]
    unfold rawP
    rw [hs]
    by_cases he:(rw.length:Int) = n * 4
    ·rw [if_neg (by rw [hz]; exact fun h => h he),if_pos he]
     rw [if_pos rfl,if_pos rfl,List.map_map]
     simp only [no_iff,no_bad]
     exact ⟨by simp [no3],fun _ => rfl⟩
    ·rw [if_pos (by rw [hz]; exact he),if_neg he]
     simp only [no_iff,no_bad]
     simp
   ·have hw:widthV 7 = 8:=rfl
    have hs:((sizeP 7:Nat):Int) = 8:=rfl
    rw [hw] at hz
    rw [hw]
    unfold rawP
    rw [hs]
    by_cases he:(rw.length:Int) = n * 8
    ·rw [if_neg (by rw [hz]; exact fun h => h he),if_pos he]
     rw [if_neg (by decide),if_pos rfl,if_neg (by decide),if_pos rfl,List.map_map]
     simp only [no_iff,no_bad]
     exact ⟨by simp [no3],fun _ => rfl⟩
    ·rw [if_pos (by rw [hz]; exact he),if_neg he]
     simp only [no_iff,no_bad]
     simp
   ·have hw:widthV 9 = 1:=rfl
    have hs:((sizeP 9:Nat):Int) = 1:=rfl
    rw [hw] at hz
    rw [hw]
    unfold rawP
    rw [hs]
    by_cases he:(rw.length:Int) = n * 1
    ·rw [if_neg (by rw [hz]; exact fun h => h he),if_pos he]
     rw [if_neg (by decide),if_neg (by decide),if_neg (by decide),if_neg (by decide)]
     simp only [no_iff,no_bad]
     have hx:(List.range n.toNat).map (fun i => i64w (atP 1 rw i)) = (List.range n.toNat).map (atP (sizeP 9) rw):=List.map_congr_left (fun i _ => i64_small (at1 hB i).1 (at1 hB i).2)
     rw [hx]
     have hp:∀ x ∈ (List.range n.toNat).map (atP (sizeP 9) rw),0 ≤ x ∧ x < 256:=fun x hx => by
      obtain ⟨i,_,rfl⟩:=List.mem_map.1 hx
      exact at1 hB i
     generalize (List.range n.toNat).map (atP (sizeP 9) rw) = xs at hp
     have hq:truthsOK xs = true ↔ xs.any (fun x => decide (1 < x)) = false:=by
      rw [truths_iff]
      simp only [List.any_eq_false]
      constructor
      ·intro h x hx
       have:=h x hx
       have:=hp x hx
       simp at *
       omega
      ·intro h x hx
       have:=h x hx
       have:=hp x hx
       simp at *
       omega
     refine ⟨by rw [hq]; simp,fun h => ?_⟩
     have h1:truthsOK xs = true:=hq.2 h.2.2
     unfold trV
     rw [if_pos h1]
    ·rw [if_pos (by rw [hz]; exact he),if_neg he]
     simp only [no_iff,no_bad]
     simp
 ·rw [if_neg hr,i1,decide_eq_false hr]
  generalize (lastV l 9 2).1.2.2.2 = rw at hB
  unfold stE
  rw [if_neg (by decide)]
  rcases known_cases hk with rfl | rfl | rfl
  ·rw [if_pos rfl,if_pos rfl]
   simp only [no_iff,no_bad,decide_eq_true_eq,decide_eq_false_iff_not]
   refine ⟨⟨fun h => ⟨h.1,by have:=h.2; omega⟩,fun h => ⟨h.1,by have:=h.2; omega⟩⟩,fun _ => by trivial⟩
  ·rw [if_neg (by decide),if_pos rfl,if_neg (by decide),if_pos rfl]
   simp only [no_iff,no_bad,decide_eq_true_eq,decide_eq_false_iff_not]
   refine ⟨⟨fun h => ⟨h.1,by have:=h.2; omega⟩,fun h => ⟨h.1,by have:=h.2; omega⟩⟩,fun _ => by trivial⟩
  ·rw [if_neg (by decide),if_neg (by decide),if_neg (by decide),if_neg (by decide)]
   unfold boolsP
   simp only [no_iff,no_bad,decide_eq_true_eq,decide_eq_false_iff_not,← truths_iff]
   refine ⟨⟨fun h => ⟨h.1,h.2.1,by have:=h.2.2; omega⟩,fun h => ⟨h.1,h.2.1,by have:=h.2.2; omega⟩⟩,fun h => ?_⟩
   unfold trV
   rw [if_pos h.2.1]
theorem dims_no (d:List Int):(dimsP d).2 = no3 ↔ (countV d).2 = 0:=by
 unfold dimsP
 simp only [no_iff,no_bad,no_big]
 rcases count_cases d with h | h | h <;> simp [h]
theorem len_ds (l:List Fld) (num:Int):(eachP l num l.length).1.length = (allV l num).length:=by unfold eachP; simp
theorem last_none2 {l:List Fld} {num:Int} (h:(lastV l num 2).2.2 = 0):(lastV l num 2).2.1 = false ↔ (allV l num).length = 0:=by
 rw [(last_is h).1]; simp
theorem tensor_eq {b:List Int} (hb:isB b):(f3 (fieldsP b).2 (tensorCF (fieldsP b).1) = no3 ↔ (tensorP b).2 = no3) ∧ ((tensorP b).2 = no3 → tensorC (fieldsP b).1 = (tensorP b).1):=by
 have hl:=fields_ok hb
 unfold tensorP
 simp only
 generalize fieldsP b = F at hl
 obtain ⟨l,fb⟩:=F
 simp only at hl ⊢
 have hd:(dimsP (intsP l 1).1).1.1 = (intsP l 1).1:=rfl
 have hd2:(dimsP (intsP l 1).1).1.2 = ((countV (intsP l 1).1).2 == 0):=rfl
 have hon:tensorOn l = ((dimsP (intsP l 1).1).1.2 && knownB (wholeP l 2).1):=by
  unfold tensorOn
  rw [hd2,bne,width_known,Bool.not_not]
 have hnc:0 ≤ (countV (intsP l 1).1).1:=countV_pos _
 have base:(f3 fb (tensorBF l) = no3 ∧ knownB (wholeP l 2).1 = true ∧ (countV (intsP l 1).1).2 = 0 ∧ (lastV l 9 2).2.2 = 0 ∧ f3 (floatsP l 4).2 (f3 (intsP l 5).2 (intsP l 7).2) = no3) ↔ (knownB (wholeP l 2).1 = true ∧ (countV (intsP l 1).1).2 = 0 ∧ fAll [fb,(intsP l 1).2,(dimsP (intsP l 1).1).2,(wholeP l 2).2,bad3 ((wholeP l 2).1 == 0),odd3 ((wholeP l 2).1 != 0 && !knownB (wholeP l 2).1),(eachP l 3 l.length).2,(if 0 < (eachP l 3 l.length).1.length then no3 else (wholeP l 14).2),odd3 (decide (0 < (eachP l 3 l.length).1.length) || (wholeP l 14).1 != 0),(nameP l 8).2,(eachP l 9 l.length).2,(floatsP l 4).2,(intsP l 5).2,(intsP l 7).2] = no3):=by
  unfold tensorBF storedF
  simp only [no_iff,no_cons,no_nil,and_true,← last_no,dims_no,width_known,len_ds]
  simp only [no_bad,no_odd,bne_eq_false_iff_eq]
  constructor
  ·rintro ⟨⟨h0,⟨⟨⟨⟨⟨⟨⟨⟨⟨h1,h2⟩,h3⟩,h4⟩,h5⟩,h6⟩,h7⟩,h8⟩,h9⟩,h10⟩,⟨⟨h11,h12⟩,h13⟩,h14⟩,k1,k2,k3,k4,k5,k6⟩
   have e3:=(last_none2 h4).1 h5
   refine ⟨k1,k2,h0,h9,h10,h1,h2,?_,h4,?_,?_,h8,h11,h12,h13,h14⟩
   ·rw [k1]; simp
   ·rw [e3]; simpa using h6
   ·rw [e3]; simp [h7]
  ·rintro ⟨k1,k2,h0,h9,h10,h1,h2,h3,h4,h6,h7,h8,h11,h12,h13,h14⟩
   have e3:(allV l 3).length = 0:=by
    rw [Bool.or_eq_false_iff] at h7
    have:=h7.1
    simp at this
    rw [this]; rfl
   rw [e3] at h6 h7
   have h7':(wholeP l 14).1 = 0:=by simpa using h7
   refine ⟨⟨h0,⟨⟨⟨⟨⟨⟨⟨⟨⟨h1,h2⟩,by rw [k1]; rfl⟩,h4⟩,(last_none2 h4).2 e3⟩,by simpa using h6⟩,h7'⟩,h8⟩,h9⟩,h10⟩,⟨⟨h11,h12⟩,h13⟩,h14⟩,k1,k2,h11,h12,h13,h14⟩
 by_cases hc:((dimsP (intsP l 1).1).1.2 && knownB (wholeP l 2).1) = true
 ·have hc2:=hc
  rw [hd2,Bool.and_eq_true,beq_iff_eq] at hc2
  obtain ⟨c1,c2⟩:=hc2
  rw [if_pos hc]
  unfold tensorCF
  rw [if_pos (by rw [hon]; exact hc),hd]
  simp only
  have E:=fun h9 => elem_eq hl (t:=(wholeP l 2).1) (n:=(countV (intsP l 1).1).1) c2 hnc h9
  constructor
  ·rw [← f3_assoc,no_iff,no_iff (fAll _),no_bad]
   constructor
   ·rintro ⟨h1,h2⟩
    have h9:(lastV l 9 2).2.2 = 0:=by
     unfold tensorBF storedF at h1
     simp only [no_iff,no_bad,bne_eq_false_iff_eq] at h1
     exact h1.2.2.1.1.1
    have hf:f3 (floatsP l 4).2 (f3 (intsP l 5).2 (intsP l 7).2) = no3:=by
     unfold tensorBF storedF at h1
     simp only [no_iff] at h1 ⊢
     exact ⟨h1.2.2.1.1.2,h1.2.2.1.2,h1.2.2.2⟩
    exact ⟨(base.1 ⟨h1,c2,c1,h9,hf⟩).2.2,(E h9).1.1 ⟨hf,by unfold stL at h2; simpa using h2⟩⟩
   ·rintro ⟨h1,h2⟩
    obtain ⟨b1,_,_,b4,b5⟩:=base.2 ⟨c2,c1,h1⟩
    refine ⟨b1,?_⟩
    have:=((E b4).1.2 h2).2
    unfold stL
    rw [this]; rfl
  ·intro h
   rw [no_iff] at h
   obtain ⟨_,_,_,b4,_⟩:=base.2 ⟨c2,c1,h.1⟩
   have:=(E b4).2 h.2
   unfold tensorC stL
   rw [this]
 ·rw [if_neg hc]
  simp only
  have no1:¬ f3 fb (tensorCF l) = no3:=fun h => hc (by
   unfold tensorCF tensorBF at h
   simp only [no_iff,no_odd,dims_no,width_known] at h
   have a1:=h.2.1.1.2
   have a2:=h.2.1.1.1.1.1.1.1.1.1.2
   rw [hd2,a1]
   simpa using a2)
  have no2:¬ fAll [fb,(intsP l 1).2,(dimsP (intsP l 1).1).2,(wholeP l 2).2,bad3 ((wholeP l 2).1 == 0),odd3 ((wholeP l 2).1 != 0 && !knownB (wholeP l 2).1),(eachP l 3 l.length).2,(if 0 < (eachP l 3 l.length).1.length then no3 else (wholeP l 14).2),odd3 (decide (0 < (eachP l 3 l.length).1.length) || (wholeP l 14).1 != 0),(nameP l 8).2,(eachP l 9 l.length).2,(floatsP l 4).2,(intsP l 5).2,(intsP l 7).2] = no3:=fun h => hc (by
   simp only [no_cons,no_odd,no_bad,dims_no] at h
   obtain ⟨_,_,a1,_,a2,a3,_⟩:=h
   rw [hd2,a1]
   have a4:((wholeP l 2).1 != 0) = true:=by rw [bne,a2]; rfl
   rw [a4] at a3
   simpa using a3)
  exact ⟨⟨fun h => absurd h no1,fun h => absurd h no2⟩,fun h => absurd h no2⟩
end Go.Proofs.YtaikppgoahdjbaaGreat
