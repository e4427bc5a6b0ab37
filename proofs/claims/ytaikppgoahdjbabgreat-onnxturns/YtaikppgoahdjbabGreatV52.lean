import Derived.Test.YtaikppgoahdjbabGreatV03
import Derived.Test.YtaikppgoahdjbabGreatV13
import Derived.Test.YtaikppgoahdjbabGreatV14
import Derived.Test.YtaikppgoahdjbabGreatV19
import Derived.Test.YtaikppgoahdjbabGreatV20
import Derived.Test.YtaikppgoahdjbabGreatV35
import Derived.Test.YtaikppgoahdjbabGreatV51
set_option maxRecDepth 100000
set_option maxHeartbeats 8000000
namespace Go.Proofs.YtaikppgoahdjbabGreat
open Go.RowKit
set_option linter.unusedVariables false
theorem dec_of {b:List Int} {m:ModelD} (hb:isB b) (h:decodeV b = (m,0)):decC b = 0:=by
 have hl:b.length ≤ 4194304:=by
  rcases Nat.lt_or_ge 4194304 b.length with g | g
  ·exfalso
   unfold decodeV at h
   rw [if_pos g] at h
   simp only [Prod.mk.injEq] at h
   exact absurd h.2 (by decide)
  ·exact g
 have h1:=(decode_eq hb hl).1.2 (by rw [h])
 unfold decC
 rw [if_neg (by omega),h1]
 rfl
theorem i64_ok {x:Int} (h:(Lit.int .i64 x).wf = true):i64B x:=by
 simp [Lit.wf,IntKind.min,IntKind.max,IntKind.signed,IntKind.bits] at h
 exact ⟨by omega,by omega⟩
theorem u32_ok {x:Int} (h:(Lit.int .u32 x).wf = true):0 ≤ x ∧ x < 4294967296:=by
 simp [Lit.wf,IntKind.min,IntKind.max,IntKind.signed,IntKind.bits] at h
 exact ⟨by omega,by omega⟩
theorem ten_ok7 {B:Nat} {w:World} {T:Ten} {A:TA} (h:TenT B w T A):okT T :=
 ⟨i64_ok h.1.1,fun x hx => i64_ok (h.1.2.1.2.2.1 x hx),fun x hx => u32_ok (h.1.2.2.1.2.2.1 x hx),fun x hx => i64_ok (h.1.2.2.2.1.2.2.1 x hx)⟩
theorem at_ok7 {B:Nat} {w:World} {a:AtA} (h:AtIn B w a):okA a.d:=by
 obtain ⟨h1,h2,h3,h4,h5,h6,⟨h7,h8⟩,h9,h10⟩:=h
 exact ⟨h1,i64_ok h2,u32_ok h3,i64_ok h4,h5,ten_ok7 h6,fun x hx => u32_ok (h7.2.2.1 x hx),fun x hx => i64_ok (h9.2.2.1 x hx)⟩
theorem no_ok7 {B:Nat} {w:World} {a:NoA} (h:NoIn B w a):okN a.d:=by
 obtain ⟨h1,h2,⟨h3,h4,h5⟩,⟨h6,h7,h8⟩,h9,h10,h11⟩:=h
 refine ⟨h1,h2,h3,h6,fun x hx => ?_⟩
 obtain ⟨y,hy,rfl⟩:=List.mem_map.1 hx
 exact at_ok7 (h9 y hy)
theorem va_ok7 {B:Nat} {w:World} {a:VaA} (h:VaIn B w a):okV a.d:=⟨h.1,i64_ok h.2.1,fun x hx => i64_ok (h.2.2.1.2.2.1 x hx)⟩
theorem mo_ok7 {B:Nat} {w:World} {a:MoA} (h:MoIn B w a):okM a.d:=by
 obtain ⟨h1,h2,⟨a1,a2,a3⟩,⟨b1,b2,b3⟩,⟨c1,c2,c3⟩,d1,d2,d3⟩:=h
 refine ⟨h2,fun x hx => ?_,fun x hx => ?_,fun x hx => ?_,fun x hx => ?_⟩
 ·obtain ⟨y,hy,rfl⟩:=List.mem_map.1 hx
  exact no_ok7 (a1 y hy)
 ·obtain ⟨y,hy,rfl⟩:=List.mem_map.1 hx
  exact ⟨(b1 y hy).1,ten_ok7 (b1 y hy).2⟩
 ·obtain ⟨y,hy,rfl⟩:=List.mem_map.1 hx
  exact va_ok7 (c1 y hy)
 ·obtain ⟨y,hy,rfl⟩:=List.mem_map.1 hx
  exact va_ok7 (d1 y hy)
theorem enc_isB {m:ModelD} (ho:okM m) (h:(encodeV m).2 = 0):isB (encodeV m).1:=by
 obtain ⟨hw,hl,he⟩:=encode_ok h
 rw [he]
 exact msg_isB7 (model_wr ho hl) (by omega)
theorem enc_no {m:ModelD} (h:(encodeV m).2 ≠ 0):(encodeV m).1 = [] ∧ ((encodeV m).2 = checkM m ∨ checkM m = 0 ∧ (encodeV m).2 = 8):=by
 unfold encodeV at h ⊢
 by_cases h1:checkM m = 0
 ·rw [if_pos h1] at h ⊢
  by_cases h2:4194304 < (msgB (modelF m)).length
  ·rw [if_pos h2]; exact ⟨rfl,.inr ⟨h1,rfl⟩⟩
  ·rw [if_neg h2] at h; exact absurd (show ((msgB (modelF m),0):List Int × Int).2 = 0 from rfl) h
 ·rw [if_neg h1]; exact ⟨rfl,.inl rfl⟩
def partsV (b:List Int):List Int × Bool:=if (readV b).2 = 0 then ((joinV (readV b).1 7).1,(joinV (readV b).1 7).2.1 && (joinV (readV b).1 7).2.2 == 0) else ([],false)
theorem parts_nil:partsV [] = ([],false):=by decide +kernel
theorem read_msg {l:List Fld} (h:∀ f ∈ l,Wr f) (hl:(msgB l).length ≤ 4194304):readV (msgB l) = (l,0):=by
 have e:=fields_msg h hl
 unfold fieldsP at e
 simp only [Prod.mk.injEq] at e
 have e2:=bad3_eq e.2
 refine Prod.ext e.1 ?_
 simpa using e2
theorem parts_ok {m:ModelD} (ho:okM m) (h:(encodeV m).2 = 0):partsV (encodeV m).1 = (msgB (graphF m),true):=by
 obtain ⟨hw,hl,he⟩:=encode_ok h
 rw [he]
 unfold partsV
 simp only
 rw [read_msg (model_wr ho hl) hl,if_pos rfl]
 have e:joinV (modelF m) 7 = (msgB (graphF m),true,0):=by
  simp [joinV,allV,modelF,numF,blkF]
 rw [e]
 rfl
theorem write_msg {l:List Fld} (h:∀ f ∈ l,Wr f) (hl:(msgB l).length ≤ 4194304):writeV l = (msgB l,0):=by
 unfold writeV
 have h1:l.all mayB = true:=List.all_eq_true.2 (fun f hf => (mayB_iff f).2 (h f hf).1)
 rw [if_neg (by rw [h1]; decide),if_neg (by omega)]
theorem msg_isB8 {l:List Fld} (h:∀ f ∈ l,Wr f) (hl:(msgB l).length ≤ 4194304):isB (msgB l):=msg_isB7 h (by omega)
theorem dec_m {c:List Int} {m:ModelD} (hb:isB c) (h:decodeV c = (m,0)):decC c = 0 ∧ (decodeV c).1 = m:=⟨dec_of hb h,by rw [h]⟩
theorem skip_all {m:ModelD} {u:Fld} {O M7 M8:List Int} (ho:okM m) (h:(encodeV m).2 = 0) (hu:Odd7 u) (hul:(msgB [u]).length ≤ 100) (hl:(encodeV m).1.length ≤ 2000000)
  (eO:(writeV [u]).1 = O) (e7:(writeV [blkF 7 (O ++ msgB (graphF m) ++ O)]).1 = M7) (e8:(writeV [blkF 8 ([16,17] ++ O)]).1 = M8) :
  O.length ≤ 100 ∧ (msgB (graphF m)).length ≤ 2000000 ∧ M7.length ≤ 2001000 ∧ M8.length ≤ 1000 ∧ isB (O ++ M7 ++ O ++ M8) ∧ decC (O ++ M7 ++ O ++ M8) = 0 ∧ (decodeV (O ++ M7 ++ O ++ M8)).1 = m ∧ isB O:=by
 obtain ⟨hw,hml,he⟩:=encode_ok h
 rw [he] at hl
 simp only at hl
 have hg:=graph_le hml
 have hgw:=graph_wr ho (by omega:(msgB (graphF m)).length ≤ 4194304)
 have wu:∀ f ∈ [u],Wr f:=fun f hf => by simp only [List.mem_cons,List.not_mem_nil,or_false] at hf; subst hf; exact hu.1
 rw [write_msg wu (by omega)] at eO
 simp only at eO
 subst eO
 have w7:∀ f ∈ [u] ++ graphF m ++ [u],Wr f:=fun f hf => by
  simp only [List.mem_append] at hf
  rcases hf with (g | g) | g
  ·exact wu f g
  ·exact hgw f g
  ·exact wu f g
 have l7:(msgB ([u] ++ graphF m ++ [u])).length ≤ 2000200:=by rw [msg_appO,msg_appO,List.length_append,List.length_append]; omega
 rw [← msg_appO,← msg_appO] at e7
 have k7:∀ f ∈ [blkF 7 (msgB ([u] ++ graphF m ++ [u]))],Wr f:=fun f hf => by simp only [List.mem_cons,List.not_mem_nil,or_false] at hf; subst hf; exact wr_blk (by decide) (by decide) (msg_isB8 w7 (by omega))
 have n7:=fblk_len 7 (msgB ([u] ++ graphF m ++ [u]))
 rw [write_msg k7 (by rw [msg_one]; omega)] at e7
 simp only at e7
 subst e7
 have e9:[16,17] = msgB [numF 2 17]:=by decide +kernel
 rw [e9,← msg_appO] at e8
 have w8:∀ f ∈ [numF 2 17] ++ [u],Wr f:=fun f hf => by
  simp only [List.mem_append,List.mem_cons,List.not_mem_nil,or_false] at hf
  rcases hf with g | g
  ·subst g; exact wr_num (by decide) (by decide) (by decide) (by decide)
  ·subst g; exact hu.1
 have l8:(msgB ([numF 2 17] ++ [u])).length ≤ 200:=by rw [msg_appO,List.length_append,← e9]; simp only [List.length_cons,List.length_nil]; omega
 have k8:∀ f ∈ [blkF 8 (msgB ([numF 2 17] ++ [u]))],Wr f:=fun f hf => by simp only [List.mem_cons,List.not_mem_nil,or_false] at hf; subst hf; exact wr_blk (by decide) (by decide) (msg_isB8 w8 (by omega))
 have n8:=fblk_len 8 (msgB ([numF 2 17] ++ [u]))
 rw [write_msg k8 (by rw [msg_one]; omega)] at e8
 simp only at e8
 subst e8
 have hc:(msgB ([u] ++ [blkF 7 (msgB ([u] ++ graphF m ++ [u]))] ++ [u] ++ [blkF 8 (msgB ([numF 2 17] ++ [u]))])).length ≤ 4194304:=by
  rw [msg_appO,msg_appO,msg_appO,List.length_append,List.length_append,List.length_append,msg_one (blkF 7 _),msg_one (blkF 8 _)]
  omega
 have hs:=skips7 ho h hu hc
 have wc:∀ f ∈ [u] ++ [blkF 7 (msgB ([u] ++ graphF m ++ [u]))] ++ [u] ++ [blkF 8 (msgB ([numF 2 17] ++ [u]))],Wr f:=fun f hf => by
  simp only [List.mem_append] at hf
  rcases hf with ((g | g) | g) | g
  ·exact wu f g
  ·exact k7 f g
  ·exact wu f g
  ·exact k8 f g
 have hB:=msg_isB8 wc hc
 rw [← msg_appO,← msg_appO,← msg_appO]
 obtain ⟨d1,d2⟩:=dec_m hB hs
 refine ⟨hul,by omega,?_,?_,hB,d1,d2,msg_isB8 wu (by omega)⟩
 ·rw [msg_one]; omega
 ·rw [msg_one]; omega
theorem split_all {m:ModelD} {l1 l2:List Fld} {O1 O2 M8 M7 N8 N7:List Int} (ho:okM m) (h:(encodeV m).2 = 0) (hl:(encodeV m).1.length ≤ 2000000) (hs:l1 ++ l2 = graphF m)
  (e1:(writeV l1).1 = O1) (e2:(writeV l2).1 = O2) (e8:(writeV [blkF 8 [16,17]]).1 = M8) (e7:(writeV [blkF 7 O1]).1 = M7) (f8:(writeV [blkF 8 [10,1,120,16,3]]).1 = N8) (f7:(writeV [blkF 7 O2]).1 = N7) :
  (writeV l1).2 = 0 ∧ (writeV l2).2 = 0 ∧ O1.length ≤ 2000000 ∧ O2.length ≤ 2000000 ∧ M8.length ≤ 100 ∧ M7.length ≤ 2000100 ∧ N8.length ≤ 100 ∧ N7.length ≤ 2000100 ∧ isB (M8 ++ M7 ++ N8 ++ N7) ∧ decC (M8 ++ M7 ++ N8 ++ N7) = 0 ∧ (decodeV (M8 ++ M7 ++ N8 ++ N7)).1 = m:=by
 obtain ⟨hw,hml,he⟩:=encode_ok h
 rw [he] at hl
 simp only at hl
 have hg:=graph_le hml
 have hgw:=graph_wr ho (by omega:(msgB (graphF m)).length ≤ 4194304)
 have hsum:(msgB l1).length + (msgB l2).length ≤ 2000000:=by
  have:=congrArg (fun l => (msgB l).length) hs
  simp only [msg_appO,List.length_append] at this
  omega
 have w1:∀ f ∈ l1,Wr f:=fun f hf => hgw f (by rw [← hs]; exact List.mem_append_left _ hf)
 have w2:∀ f ∈ l2,Wr f:=fun f hf => hgw f (by rw [← hs]; exact List.mem_append_right _ hf)
 have q1:=write_msg w1 (by omega)
 have q2:=write_msg w2 (by omega)
 rw [q1] at e1 ⊢
 rw [q2] at e2 ⊢
 simp only at e1 e2
 subst e1 e2
 have g8:[16,17] = msgB [numF 2 17]:=by decide +kernel
 have g9:[10,1,120,16,3] = msgB [blkF 1 [120],numF 2 3]:=by decide +kernel
 have k1:∀ f ∈ [blkF 7 (msgB l1)],Wr f:=fun f hf => by simp only [List.mem_cons,List.not_mem_nil,or_false] at hf; subst hf; exact wr_blk (by decide) (by decide) (msg_isB8 w1 (by omega))
 have k2:∀ f ∈ [blkF 7 (msgB l2)],Wr f:=fun f hf => by simp only [List.mem_cons,List.not_mem_nil,or_false] at hf; subst hf; exact wr_blk (by decide) (by decide) (msg_isB8 w2 (by omega))
 have k8:∀ f ∈ [blkF 8 [16,17]],Wr f:=fun f hf => by simp only [List.mem_cons,List.not_mem_nil,or_false] at hf; subst hf; exact wr_blk (by decide) (by decide) (by unfold isB; decide)
 have k9:∀ f ∈ [blkF 8 [10,1,120,16,3]],Wr f:=fun f hf => by simp only [List.mem_cons,List.not_mem_nil,or_false] at hf; subst hf; exact wr_blk (by decide) (by decide) (by unfold isB; decide)
 have n1:=fblk_len 7 (msgB l1)
 have n2:=fblk_len 7 (msgB l2)
 have n8:=fblk_len 8 [16,17]
 have n9:=fblk_len 8 [10,1,120,16,3]
 simp only [List.length_cons,List.length_nil] at n8 n9
 rw [write_msg k1 (by rw [msg_one]; omega)] at e7
 rw [write_msg k2 (by rw [msg_one]; omega)] at f7
 rw [write_msg k8 (by rw [msg_one]; omega)] at e8
 rw [write_msg k9 (by rw [msg_one]; omega)] at f8
 simp only at e7 f7 e8 f8
 subst e7 f7 e8 f8
 have ec:msgB [blkF 8 [16,17]] ++ msgB [blkF 7 (msgB l1)] ++ msgB [blkF 8 [10,1,120,16,3]] ++ msgB [blkF 7 (msgB l2)] = msgB [blkF 8 (msgB [numF 2 17]),blkF 7 (msgB l1),blkF 8 (msgB [blkF 1 [120],numF 2 3]),blkF 7 (msgB l2)]:=by
  rw [← g8,← g9,← msg_appO,← msg_appO,← msg_appO]; rfl
 have hc:(msgB [blkF 8 (msgB [numF 2 17]),blkF 7 (msgB l1),blkF 8 (msgB [blkF 1 [120],numF 2 3]),blkF 7 (msgB l2)]).length ≤ 4194304:=by
  rw [← ec,List.length_append,List.length_append,List.length_append,msg_one,msg_one,msg_one,msg_one]
  omega
 have hd:=splits7 ho h hs hc
 have wc:∀ f ∈ [blkF 8 (msgB [numF 2 17]),blkF 7 (msgB l1),blkF 8 (msgB [blkF 1 [120],numF 2 3]),blkF 7 (msgB l2)],Wr f:=fun f hf => by
  rw [← g8,← g9] at hf
  simp only [List.mem_cons,List.not_mem_nil,or_false] at hf
  rcases hf with g | g | g | g
  ·exact k8 f (by simp [g])
  ·exact k1 f (by simp [g])
  ·exact k9 f (by simp [g])
  ·exact k2 f (by simp [g])
 have hB:=msg_isB8 wc hc
 obtain ⟨d1,d2⟩:=dec_m hB hd
 rw [ec]
 refine ⟨rfl,rfl,by omega,by omega,?_,?_,?_,?_,hB,d1,d2⟩ <;> rw [msg_one] <;> omega
theorem turn_len:∀ l:List Fld,(msgB (allV l 12)).length + (msgB (allV l 11)).length + (msgB (allV l 5)).length + (msgB (allV l 2)).length + (msgB (allV l 1)).length ≤ (msgB l).length
 | [] => by simp [allV,msgB]
 | x :: r => by
   have ih:=turn_len r
   have hc:∀ num:Int,(msgB (allV (x :: r) num)).length = (if x.1 = num then (fieldB x).length else 0) + (msgB (allV r num)).length:=fun num => by
    unfold allV
    by_cases g:x.1 = num
    ·rw [List.filter_cons_of_pos (by simpa using g),if_pos g]; simp [msgB]
    ·rw [List.filter_cons_of_neg (by simpa using g),if_neg g]; simp
   have e:(msgB (x :: r)).length = (fieldB x).length + (msgB r).length:=by simp [msgB]
   rw [hc 12,hc 11,hc 5,hc 2,hc 1,e]
   (repeat' split) <;> omega
theorem turn_all {m:ModelD} {O M8 M7:List Int} (ho:okM m) (h:(encodeV m).2 = 0) (hl:(encodeV m).1.length ≤ 2000000)
  (e1:(writeV (turnF m)).1 = O) (e8:(writeV [blkF 8 [16,17]]).1 = M8) (e7:(writeV [blkF 7 O]).1 = M7) :
  (writeV (turnF m)).2 = 0 ∧ O.length ≤ 2000000 ∧ M8.length ≤ 100 ∧ M7.length ≤ 2000100 ∧ isB (M8 ++ M7) ∧ decC (M8 ++ M7) = 0 ∧ (decodeV (M8 ++ M7)).1 = m:=by
 obtain ⟨hw,hml,he⟩:=encode_ok h
 rw [he] at hl
 simp only at hl
 have hg:=graph_le hml
 have hgw:=graph_wr ho (by omega:(msgB (graphF m)).length ≤ 4194304)
 have htw:∀ f ∈ turnF m,Wr f:=fun f hf => by
  unfold turnF at hf
  simp only [List.mem_append] at hf
  rcases hf with (((h | h) | h) | h) | h <;> exact hgw f (List.mem_filter.1 h).1
 have htl:(msgB (turnF m)).length ≤ 2000000:=by
  have:=turn_len (graphF m)
  unfold turnF
  rw [msg_appO,msg_appO,msg_appO,msg_appO,List.length_append,List.length_append,List.length_append,List.length_append]
  omega
 have q1:=write_msg htw (by omega)
 rw [q1] at e1 ⊢
 simp only at e1
 subst e1
 have g8:[16,17] = msgB [numF 2 17]:=by decide +kernel
 have k1:∀ f ∈ [blkF 7 (msgB (turnF m))],Wr f:=fun f hf => by simp only [List.mem_cons,List.not_mem_nil,or_false] at hf; subst hf; exact wr_blk (by decide) (by decide) (msg_isB8 htw (by omega))
 have k8:∀ f ∈ [blkF 8 [16,17]],Wr f:=fun f hf => by simp only [List.mem_cons,List.not_mem_nil,or_false] at hf; subst hf; exact wr_blk (by decide) (by decide) (by unfold isB; decide)
 have n1:=fblk_len 7 (msgB (turnF m))
 have n8:=fblk_len 8 [16,17]
 simp only [List.length_cons,List.length_nil] at n8
 rw [write_msg k1 (by rw [msg_one]; omega)] at e7
 rw [write_msg k8 (by rw [msg_one]; omega)] at e8
 simp only at e7 e8
 subst e7 e8
 have ec:msgB [blkF 8 [16,17]] ++ msgB [blkF 7 (msgB (turnF m))] = msgB [blkF 8 (msgB [numF 2 17]),blkF 7 (msgB (turnF m))]:=by
  rw [← g8,← msg_appO]; rfl
 have hc:(msgB [blkF 8 (msgB [numF 2 17]),blkF 7 (msgB (turnF m))]).length ≤ 4194304:=by
  rw [← ec,List.length_append,msg_one,msg_one]
  omega
 have hd:=turns7 ho h hc
 have wc:∀ f ∈ [blkF 8 (msgB [numF 2 17]),blkF 7 (msgB (turnF m))],Wr f:=fun f hf => by
  rw [← g8] at hf
  simp only [List.mem_cons,List.not_mem_nil,or_false] at hf
  rcases hf with g | g
  ·exact k8 f (by simp [g])
  ·exact k1 f (by simp [g])
 have hB:=msg_isB8 wc hc
 obtain ⟨d1,d2⟩:=dec_m hB hd
 rw [ec]
 refine ⟨rfl,by omega,?_,?_,hB,d1,d2⟩ <;> rw [msg_one] <;> omega
theorem one_fls {u:World} {a:FA} (t:TypeId) (h:FaIn u a):Fls (u.alloc (.cells #[.int .i64 a.n,.int .i64 a.wr,.int .u64 a.x,.slice a.q a.d.length a.c] t)) (some ⟨u.heap.size,0,none⟩) 1 [a]:=by
 have hB:=Box.new u #[.int .i64 a.n,.int .i64 a.wr,.int .u64 a.x,.slice a.q a.d.length a.c] t
 refine ⟨⟨by simp,by omega,fun _ => ⟨u.heap.size,0,rfl,hB.lt,fun i hi j v hv => ?_⟩,fun h => by cases h⟩,fun b hb => ?_⟩
 ·have hi2:i = 0:=by simp at hi; omega
  subst hi2
  rw [hB.cell]
  simp only [Nat.zero_mul,Nat.zero_add]
  have hv2:[Value.int .i64 a.n,.int .i64 a.wr,.int .u64 a.x,.slice a.q a.d.length a.c][j]? = some v:=hv
  simpa using hv2
 ·simp only [List.mem_cons,List.not_mem_nil,or_false] at hb
  subst hb
  exact h.below (al1p _ _)
theorem mmessage_any (num:Int) (p:Option Addr) (c:Nat) (b:List Int) (w:World) (hn:(Lit.int .i64 num).wf = true) (h:Ints .u8 w p c b) (hl:b.length ≤ 140737480000000) :
  Calls Tryz.prog 10 #[.int .i64 num,.slice p b.length c] w fun e w' => ∃ v,e = .returned v ∧ Hid (OwnG 5 (Value.int .u8) w w' v (writeV [blkF num b]).1 ∧ isB (writeV [blkF num b]).1):=by
 have C:=hide (rwriteO_any _ _ _ _ (one_fls (u:=w) (a:=⟨num,2,0,b,p,c⟩) 63 ⟨hn,rfl,rfl,h⟩) (by simp [sumD]; omega))
 have e1:[(⟨num,2,0,b,p,c⟩:FA)].map FA.f = [blkF num b]:=rfl
 rw [e1] at C
 simp only [List.length_cons,List.length_nil] at C
 generalize writeV [blkF num b] = R at C ⊢
 obtain ⟨R1,R2⟩:=R
 simp only at C ⊢
 clear h hn e1 hl
 go_enter Tryz.func10,Tryz.ntmps10
 go_wp2_with fail
 refine (uh C).mono ?_
 rintro e w1 ⟨v,rfl,hI⟩
 have H:=hide (And.intro ((uh hI).1.early (al1p _ _)) (uh hI).2)
 clear hI C
 go_wp2_with fail
 go_ret
 exact ⟨v,rfl,H⟩
theorem mparts_any (p:Option Addr) (c:Nat) (b:List Int) (w:World) (h:Ints .u8 w p c b) (hl:b.length ≤ 4194304) :
  Calls Tryz.prog 7 #[.slice p b.length c] w fun e w' => (∃ q d,e = .returned (.tuple #[.slice q (partsV b).1.length d,.bool (partsV b).2]) ∧ Ints .u8 w' q d (partsV b).1) ∧ Below w.heap.size w w':=by
 have RD:=hide (rread_any p c b w h)
 have hb:=wf_isB h.2.2.1
 have HR:Hid (∀ L:List FA,L.map FA.f = (readV b).1 → sumD L + L.length ≤ 4194304):=hide (fun L hL => read_sum hb hl hL)
 have HP:Hid (∀ R,partsV b = R → R = if (readV b).2 = 0 then ((joinV (readV b).1 7).1,(joinV (readV b).1 7).2.1 && (joinV (readV b).1 7).2.2 == 0) else ([],false)):=hide (fun R hR => by rw [← hR]; rfl)
 generalize partsV b = R at HP ⊢
 replace HP:=uh HP R rfl
 generalize readV b = V at RD HR HP
 obtain ⟨V1,V2⟩:=V
 simp only at RD HR HP
 clear h hb hl
 by_cases h0:V2 = 0
 ·rw [if_pos h0] at HP
  subst h0
  have JN:Hid (∀ (q:Option Addr) (d:Nat) (L:List FA) (v:World),L.map FA.f = V1 → Fls v q d L → Calls Tryz.prog 22 #[.slice q L.length d,.int .i64 7] v fun e w' => (∃ q d,e = .returned (.tuple #[.slice q (joinV V1 7).1.length d,.bool (joinV V1 7).2.1,.int .i64 (joinV V1 7).2.2]) ∧ Ints .u8 w' q d (joinV V1 7).1) ∧ Below v.heap.size v w'):=hide (fun q d L v hL hF => by
   have hs:=uh HR L hL
   have k:=rjoined_any q d L 7 v hF (by omega) (by omega)
   rw [hL] at k
   refine k.mono fun e u hh => ?_
   obtain ⟨⟨q,d,he,hi,_⟩,hb⟩:=hh
   exact ⟨⟨q,d,he,hi⟩,hb⟩)
  clear HR
  generalize joinV V1 7 = J at JN HP
  obtain ⟨J1,J2,J3⟩:=J
  simp only at JN HP
  have hJ:J2 = false ∨ J2 = true ∧ (J3 == 0) = true ∨ J2 = true ∧ (J3 == 0) = false:=by
   cases J2
   ·exact .inl rfl
   ·cases hj:(J3 == 0)
    ·exact .inr (.inr ⟨rfl,rfl⟩)
    ·exact .inr (.inl ⟨rfl,rfl⟩)
  subst HP
  simp only
  rcases hJ with hj | ⟨hj,h3⟩ | ⟨hj,h3⟩
  all_goals
   subst hj
   simp only [Bool.false_and,Bool.true_and]
   try rw [h3]
   go_enter Tryz.func7,Tryz.ntmps7
   go_wp2_with fail
   refine (uh RD).mono ?_
   rintro e w1 ⟨⟨q,d,L,rfl,hL⟩,hb⟩
   have J:=hide (uh JN q d L w1 (uh hL).1 (uh hL).2)
   have B:=hide hb
   clear hL hb RD JN
   go_wp2_with fail
   refine (uh J).mono ?_
   rintro e w2 ⟨⟨q2,d2,rfl,hI⟩,hb⟩
   have I2:=hide (And.intro hI (bl_tr (uh B) hb))
   clear hI hb J B
   go_wp2_with fail
   go_ret2
   exact ⟨⟨q2,d2,rfl,(uh I2).1⟩,(uh I2).2⟩
 ·rw [if_neg h0] at HP
  subst HP
  have t0:(V2 != 0) = true:=bneTp h0
  clear h0 HR
  simp only [List.length_nil]
  go_enter Tryz.func7,Tryz.ntmps7
  go_wp2_with fail
  refine (uh RD).mono ?_
  rintro e w1 ⟨⟨q,d,L,rfl,hL⟩,hb⟩
  have B:=hide hb
  clear hL hb RD
  go_wp2_with fail
  go_ret2
  exact ⟨⟨none,0,rfl,nilInts _ _⟩,uh B⟩
theorem Fls.take {w:World} {p:Option Addr} {c:Nat} {l:List FA} (h:Fls w p c l) (k:Nat):Fls w p c (l.take k):=by
 obtain ⟨⟨h1,h2,h3,h4⟩,h5⟩:=h
 refine ⟨⟨by rw [List.length_take]; omega,h2,fun hp => ?_,h4⟩,fun a ha => h5 a (List.mem_of_mem_take ha)⟩
 rw [List.length_take] at hp
 obtain ⟨b,o,e,hb,hc⟩:=h3 (by omega)
 refine ⟨b,o,e,hb,fun i hi j u hu => hc i (by rw [List.length_take] at hi; omega) j u ?_⟩
 rw [List.length_take] at hi
 rw [List.getD_eq_getElem?_getD,List.getElem?_take_of_lt (by omega),← List.getD_eq_getElem?_getD] at hu
 exact hu
theorem Fls.drop {w:World} {b o c:Nat} {l:List FA} (h:Fls w (some ⟨b,o,none⟩) c l) (k:Nat) (hk:k ≤ l.length):Fls w (some ⟨b,o + k * 4,none⟩) (c - k) (l.drop k):=by
 obtain ⟨⟨h1,h2,h3,h4⟩,h5⟩:=h
 refine ⟨⟨by rw [List.length_drop]; omega,by omega,fun hp => ?_,fun h => by cases h⟩,fun a ha => h5 a (List.mem_of_mem_drop ha)⟩
 rw [List.length_drop] at hp
 obtain ⟨b',o',e,hb,hc⟩:=h3 (by omega)
 simp only [Option.some.injEq,Addr.mk.injEq] at e
 obtain ⟨rfl,rfl,_⟩:=e
 refine ⟨b,o + k * 4,rfl,hb,fun i hi j u hu => ?_⟩
 rw [List.length_drop] at hi
 rw [List.getD_eq_getElem?_getD,List.getElem?_drop,← List.getD_eq_getElem?_getD] at hu
 have:=hc (k + i) (by omega) j u hu
 rw [show o + k * 4 + i * 4 + j = o + (k + i) * 4 + j by omega]
 exact this
theorem sumD_cut (l:List FA) (k:Nat):sumD (l.take k) ≤ sumD l ∧ sumD (l.drop k) ≤ sumD l:=by
 have:sumD l = sumD (l.take k) + sumD (l.drop k):=by
  have h:=congrArg sumD (List.take_append_drop k l)
  have h2:sumD (l.take k ++ l.drop k) = sumD (l.take k) + sumD (l.drop k):=by unfold sumD; rw [List.map_append,List.sum_append_nat]
  omega
 omega
theorem and65535_i64 (n:Int):bits .and .i64 n 65535 = n % 65536:=by
 have h1:(BitVec.ofInt 64 65535).toNat = 2 ^ 16 - 1:=by decide
 have key:(BitVec.ofInt 64 n &&& BitVec.ofInt 64 65535).toNat = (n % ((2 ^ 64:Nat):Int)).toNat % 2 ^ 16:=by
  rw [BitVec.toNat_and,BitVec.toNat_ofInt,h1,Nat.and_two_pow_sub_one_eq_mod]
 show IntKind.i64.wrap ((BitVec.ofInt 64 n &&& BitVec.ofInt 64 65535).toNat:Nat) = n % 65536
 rw [key,IntKind.wrap_i64]
 omega
def ordL:List Int:=[12,11,5,2,1]
def turnA (L:List FA) (n:Nat):List FA:=(ordL.take n).flatMap (allA L)
theorem turnA_step (L:List FA) {n:Nat} (h:n < 5):turnA L (n + 1) = turnA L n ++ allA L (ordL.getD n 0):=by
 have:n = 0 ∨ n = 1 ∨ n = 2 ∨ n = 3 ∨ n = 4:=by omega
 rcases this with rfl | rfl | rfl | rfl | rfl <;> simp [turnA,ordL]
theorem turnA_all {L:List FA} {m:ModelD} (h:L.map FA.f = graphF m):(turnA L 5).map FA.f = turnF m:=by
 unfold turnF
 rw [← h]
 simp [turnA,ordL,allA_f]
theorem turnA_mem {L:List FA} {n:Nat}:∀ a ∈ turnA L n,a ∈ L:=fun a ha => by
 obtain ⟨x,_,hx⟩:=List.mem_flatMap.1 ha
 exact (List.mem_filter.1 hx).1
theorem turnA_len (L:List FA) {n:Nat} (h:n ≤ 5):(turnA L n).length ≤ L.length * 5 ∧ sumD (turnA L n) ≤ sumD L * 5:=by
 have key:∀ x:Int,(allA L x).length ≤ L.length ∧ sumD (allA L x) ≤ sumD L:=fun x => ⟨List.length_filter_le _ _,sumD_all L x⟩
 have g:∀ l:List Int,l.length ≤ 5 → (l.flatMap (allA L)).length ≤ L.length * l.length ∧ sumD (l.flatMap (allA L)) ≤ sumD L * l.length:=fun l _ => by
  induction l with
  | nil => simp [sumD]
  | cons x r ih =>
    have:=ih (by simp at *; omega)
    have k:=key x
    have e:sumD ((x :: r).flatMap (allA L)) = sumD (allA L x) + sumD (r.flatMap (allA L)):=by simp [sumD]
    rw [e,List.flatMap_cons,List.length_append,List.length_cons,Nat.mul_succ,Nat.mul_succ]
    omega
 have:=g (ordL.take n) (by rw [List.length_take]; omega)
 have hl:(ordL.take n).length ≤ 5:=by rw [List.length_take]; omega
 have a1:=Nat.mul_le_mul_left L.length hl
 have a2:=Nat.mul_le_mul_left (sumD L) hl
 unfold turnA
 omega
end Go.Proofs.YtaikppgoahdjbabGreat
