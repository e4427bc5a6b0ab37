import Derived.Test.YtaikppgoahdjbaaGreatV04
import Derived.Test.YtaikppgoahdjbaaGreatV14
import Derived.Test.YtaikppgoahdjbaaGreatV15
import Derived.Test.YtaikppgoahdjbaaGreatV21
import Derived.Test.YtaikppgoahdjbaaGreatV22
import Derived.Test.YtaikppgoahdjbaaGreatV41
import Derived.Test.YtaikppgoahdjbaaGreatV51
set_option maxRecDepth 100000
set_option maxHeartbeats 8000000
namespace Go.Proofs.YtaikppgoahdjbaaGreat
open Go.RowKit
set_option linter.unusedVariables false
theorem dec_cases (b:List Int):decC b = 0 ∨ decC b = 6 ∨ decC b = 7 ∨ decC b = 8:=by
 unfold decC
 (repeat' split) <;> simp
theorem dec_zero {b:List Int} (h:decC b = 0):b.length ≤ 4194304 ∧ decodeF b = no3:=by
 unfold decC at h
 split at h
 ·cases h
 ·rename_i hl
  refine ⟨by omega,lev_zero ?_⟩
  have h1:=lev_pos (decodeF b)
  have h2:=lev_le (decodeF b)
  split at h
  ·cases h
  ·split at h
   ·cases h
   ·split at h
    ·cases h
    ·omega
theorem dec_V {b:List Int} (hb:isB b) (h:decC b = 0):decodeV b = ((decodeV b).1,0):=by
 obtain ⟨h1,h2⟩:=dec_zero h
 have:=(decode_eq hb h1).1.1 h2
 exact Prod.ext rfl this
theorem dec_of {b:List Int} {m:ModelD} (hb:isB b) (h:decodeV b = (m,0)):decC b = 0:=by
 have hl:b.length ≤ 4194304:=by
  rcases Nat.lt_or_ge 4194304 b.length with g | g
  ·exfalso
   unfold decodeV at h
   rw [if_pos g] at h
   simp only [Prod.mk.injEq] at h
   exact absurd h.2 (by decide)
  ·exact g
 have h1:=(decode_eq hb hl).1.2 (by rw [h])
 unfold decC
 rw [if_neg (by omega),h1]
 rfl
theorem i64_ok {x:Int} (h:(Lit.int .i64 x).wf = true):i64B x:=by
 simp [Lit.wf,IntKind.min,IntKind.max,IntKind.signed,IntKind.bits] at h
 exact ⟨by omega,by omega⟩
theorem u32_ok {x:Int} (h:(Lit.int .u32 x).wf = true):0 ≤ x ∧ x < 4294967296:=by
 simp [Lit.wf,IntKind.min,IntKind.max,IntKind.signed,IntKind.bits] at h
 exact ⟨by omega,by omega⟩
theorem ten_ok7 {B:Nat} {w:World} {T:Ten} {A:TA} (h:TenT B w T A):okT T :=
 ⟨i64_ok h.1.1,fun x hx => i64_ok (h.1.2.1.2.2.1 x hx),fun x hx => u32_ok (h.1.2.2.1.2.2.1 x hx),fun x hx => i64_ok (h.1.2.2.2.1.2.2.1 x hx)⟩
theorem at_ok7 {B:Nat} {w:World} {a:AtA} (h:AtIn B w a):okA a.d:=by
 obtain ⟨h1,h2,h3,h4,h5,h6,⟨h7,h8⟩,h9,h10⟩:=h
 exact ⟨h1,i64_ok h2,u32_ok h3,i64_ok h4,h5,ten_ok7 h6,fun x hx => u32_ok (h7.2.2.1 x hx),fun x hx => i64_ok (h9.2.2.1 x hx)⟩
theorem no_ok7 {B:Nat} {w:World} {a:NoA} (h:NoIn B w a):okN a.d:=by
 obtain ⟨h1,h2,⟨h3,h4,h5⟩,⟨h6,h7,h8⟩,h9,h10,h11⟩:=h
 refine ⟨h1,h2,h3,h6,fun x hx => ?_⟩
 obtain ⟨y,hy,rfl⟩:=List.mem_map.1 hx
 exact at_ok7 (h9 y hy)
theorem va_ok7 {B:Nat} {w:World} {a:VaA} (h:VaIn B w a):okV a.d:=⟨h.1,i64_ok h.2.1,fun x hx => i64_ok (h.2.2.1.2.2.1 x hx)⟩
theorem mo_ok7 {B:Nat} {w:World} {a:MoA} (h:MoIn B w a):okM a.d:=by
 obtain ⟨h1,h2,⟨a1,a2,a3⟩,⟨b1,b2,b3⟩,⟨c1,c2,c3⟩,d1,d2,d3⟩:=h
 refine ⟨h2,fun x hx => ?_,fun x hx => ?_,fun x hx => ?_,fun x hx => ?_⟩
 ·obtain ⟨y,hy,rfl⟩:=List.mem_map.1 hx
  exact no_ok7 (a1 y hy)
 ·obtain ⟨y,hy,rfl⟩:=List.mem_map.1 hx
  exact ⟨(b1 y hy).1,ten_ok7 (b1 y hy).2⟩
 ·obtain ⟨y,hy,rfl⟩:=List.mem_map.1 hx
  exact va_ok7 (c1 y hy)
 ·obtain ⟨y,hy,rfl⟩:=List.mem_map.1 hx
  exact va_ok7 (d1 y hy)
theorem enc_isB {m:ModelD} (ho:okM m) (h:(encodeV m).2 = 0):isB (encodeV m).1:=by
 obtain ⟨hw,hl,he⟩:=encode_ok h
 rw [he]
 exact msg_isB7 (model_wr ho hl) (by omega)
theorem enc_chk {m:ModelD} (h:(encodeV m).2 = 0):checkM m = 0:=by
 by_cases h1:checkM m = 0
 ·exact h1
 ·unfold encodeV at h
  rw [if_neg h1] at h
  exact h
theorem enc_no {m:ModelD} (h:(encodeV m).2 ≠ 0):(encodeV m).1 = [] ∧ ((encodeV m).2 = checkM m ∨ checkM m = 0 ∧ (encodeV m).2 = 8):=by
 unfold encodeV at h ⊢
 by_cases h1:checkM m = 0
 ·rw [if_pos h1] at h ⊢
  by_cases h2:4194304 < (msgB (modelF m)).length
  ·rw [if_pos h2]; exact ⟨rfl,.inr ⟨h1,rfl⟩⟩
  ·rw [if_neg h2] at h; exact absurd (show ((msgB (modelF m),0):List Int × Int).2 = 0 from rfl) h
 ·rw [if_neg h1]; exact ⟨rfl,.inl rfl⟩
theorem wr_sm {T:Ten} (h:TenWr T):TenSm T:=⟨by have:=h.1; omega,by have:=h.2.1; omega,by have:=h.2.2.1; omega,by have:=h.2.2.2; omega⟩
theorem sm_lt {a:MoA} (h:MoSm a):MoLt a:=by
 obtain ⟨_,h2,h3,_⟩:=h
 refine ⟨fun x hx y hy => ?_,fun x hx => wr_sm (h3 x hx).2⟩
 obtain ⟨_,_,_,_,_,h6⟩:=h2 x hx
 obtain ⟨_,_,_,_,g1,g2,g3,g4⟩:=(h6 y hy).1
 exact wr_sm ⟨g1,g2,g3,g4⟩
def partsV (b:List Int):List Int × Bool:=if (readV b).2 = 0 then ((joinV (readV b).1 7).1,(joinV (readV b).1 7).2.1 && (joinV (readV b).1 7).2.2 == 0) else ([],false)
def oddF (num x:Int) (text:Bool):Fld:=if text then (100 + num % 1024,2,0,varV x) else (100 + num % 1024,0,x,[])
theorem parts_nil:partsV [] = ([],false):=by decide +kernel
theorem read_msg {l:List Fld} (h:∀ f ∈ l,Wr f) (hl:(msgB l).length ≤ 4194304):readV (msgB l) = (l,0):=by
 have e:=fields_msg h hl
 unfold fieldsP at e
 simp only [Prod.mk.injEq] at e
 have e2:=bad3_eq e.2
 refine Prod.ext e.1 ?_
 simpa using e2
theorem parts_ok {m:ModelD} (ho:okM m) (h:(encodeV m).2 = 0):partsV (encodeV m).1 = (msgB (graphF m),true):=by
 obtain ⟨hw,hl,he⟩:=encode_ok h
 rw [he]
 unfold partsV
 simp only
 rw [read_msg (model_wr ho hl) hl,if_pos rfl]
 have e:joinV (modelF m) 7 = (msgB (graphF m),true,0):=by
  simp [joinV,allV,modelF,numF,blkF]
 rw [e]
 rfl
theorem write_msg {l:List Fld} (h:∀ f ∈ l,Wr f) (hl:(msgB l).length ≤ 4194304):writeV l = (msgB l,0):=by
 unfold writeV
 have h1:l.all mayB = true:=List.all_eq_true.2 (fun f hf => (mayB_iff f).2 (h f hf).1)
 rw [if_neg (by rw [h1]; decide),if_neg (by omega)]
theorem msg_isB8 {l:List Fld} (h:∀ f ∈ l,Wr f) (hl:(msgB l).length ≤ 4194304):isB (msgB l):=msg_isB7 h (by omega)
theorem odd_ok {num x:Int} (text:Bool) (h0:0 ≤ x) (h1:x < 18446744073709551616):Odd7 (oddF num x text) ∧ (msgB [oddF num x text]).length ≤ 100:=by
 have hm:0 ≤ num % 1024 ∧ num % 1024 < 1024:=⟨Int.emod_nonneg _ (by decide),Int.emod_lt_of_pos _ (by decide)⟩
 have v1:=varV_len x
 cases text
 ·have e:oddF num x false = numF (100 + num % 1024) x:=rfl
  rw [e]
  refine ⟨⟨wr_num (by omega) (by omega) h0 h1,by show 100 ≤ 100 + num % 1024; omega⟩,?_⟩
  rw [msg_one]
  have:=fnum_len (100 + num % 1024) x
  omega
 ·have e:oddF num x true = blkF (100 + num % 1024) (varV x):=rfl
  rw [e]
  refine ⟨⟨wr_blk (by omega) (by omega) (varV_range h0 h1),by show 100 ≤ 100 + num % 1024; omega⟩,?_⟩
  rw [msg_one]
  have:=fblk_len (100 + num % 1024) (varV x)
  omega
theorem dec_m {c:List Int} {m:ModelD} (hb:isB c) (h:decodeV c = (m,0)):decC c = 0 ∧ (decodeV c).1 = m:=⟨dec_of hb h,by rw [h]⟩
theorem skip_all {m:ModelD} {u:Fld} {O M7 M8:List Int} (ho:okM m) (h:(encodeV m).2 = 0) (hu:Odd7 u) (hul:(msgB [u]).length ≤ 100) (hl:(encodeV m).1.length ≤ 2000000)
  (eO:(writeV [u]).1 = O) (e7:(writeV [blkF 7 (O ++ msgB (graphF m) ++ O)]).1 = M7) (e8:(writeV [blkF 8 ([16,17] ++ O)]).1 = M8) :
  O.length ≤ 100 ∧ (msgB (graphF m)).length ≤ 2000000 ∧ M7.length ≤ 2001000 ∧ M8.length ≤ 1000 ∧ isB (O ++ M7 ++ O ++ M8) ∧ decC (O ++ M7 ++ O ++ M8) = 0 ∧ (decodeV (O ++ M7 ++ O ++ M8)).1 = m ∧ isB O:=by
 obtain ⟨hw,hml,he⟩:=encode_ok h
 rw [he] at hl
 simp only at hl
 have hg:=graph_le hml
 have hgw:=graph_wr ho (by omega:(msgB (graphF m)).length ≤ 4194304)
 have wu:∀ f ∈ [u],Wr f:=fun f hf => by simp only [List.mem_cons,List.not_mem_nil,or_false] at hf; subst hf; exact hu.1
 rw [write_msg wu (by omega)] at eO
 simp only at eO
 subst eO
 have w7:∀ f ∈ [u] ++ graphF m ++ [u],Wr f:=fun f hf => by
  simp only [List.mem_append] at hf
  rcases hf with (g | g) | g
  ·exact wu f g
  ·exact hgw f g
  ·exact wu f g
 have l7:(msgB ([u] ++ graphF m ++ [u])).length ≤ 2000200:=by rw [msg_appO,msg_appO,List.length_append,List.length_append]; omega
 rw [← msg_appO,← msg_appO] at e7
 have k7:∀ f ∈ [blkF 7 (msgB ([u] ++ graphF m ++ [u]))],Wr f:=fun f hf => by simp only [List.mem_cons,List.not_mem_nil,or_false] at hf; subst hf; exact wr_blk (by decide) (by decide) (msg_isB8 w7 (by omega))
 have n7:=fblk_len 7 (msgB ([u] ++ graphF m ++ [u]))
 rw [write_msg k7 (by rw [msg_one]; omega)] at e7
 simp only at e7
 subst e7
 have e9:[16,17] = msgB [numF 2 17]:=by decide +kernel
 rw [e9,← msg_appO] at e8
 have w8:∀ f ∈ [numF 2 17] ++ [u],Wr f:=fun f hf => by
  simp only [List.mem_append,List.mem_cons,List.not_mem_nil,or_false] at hf
  rcases hf with g | g
  ·subst g; exact wr_num (by decide) (by decide) (by decide) (by decide)
  ·subst g; exact hu.1
 have l8:(msgB ([numF 2 17] ++ [u])).length ≤ 200:=by rw [msg_appO,List.length_append,← e9]; simp only [List.length_cons,List.length_nil]; omega
 have k8:∀ f ∈ [blkF 8 (msgB ([numF 2 17] ++ [u]))],Wr f:=fun f hf => by simp only [List.mem_cons,List.not_mem_nil,or_false] at hf; subst hf; exact wr_blk (by decide) (by decide) (msg_isB8 w8 (by omega))
 have n8:=fblk_len 8 (msgB ([numF 2 17] ++ [u]))
 rw [write_msg k8 (by rw [msg_one]; omega)] at e8
 simp only at e8
 subst e8
 have hc:(msgB ([u] ++ [blkF 7 (msgB ([u] ++ graphF m ++ [u]))] ++ [u] ++ [blkF 8 (msgB ([numF 2 17] ++ [u]))])).length ≤ 4194304:=by
  rw [msg_appO,msg_appO,msg_appO,List.length_append,List.length_append,List.length_append,msg_one (blkF 7 _),msg_one (blkF 8 _)]
  omega
 have hs:=skips7 ho h hu hc
 have wc:∀ f ∈ [u] ++ [blkF 7 (msgB ([u] ++ graphF m ++ [u]))] ++ [u] ++ [blkF 8 (msgB ([numF 2 17] ++ [u]))],Wr f:=fun f hf => by
  simp only [List.mem_append] at hf
  rcases hf with ((g | g) | g) | g
  ·exact wu f g
  ·exact k7 f g
  ·exact wu f g
  ·exact k8 f g
 have hB:=msg_isB8 wc hc
 rw [← msg_appO,← msg_appO,← msg_appO]
 obtain ⟨d1,d2⟩:=dec_m hB hs
 refine ⟨hul,by omega,?_,?_,hB,d1,d2,msg_isB8 wu (by omega)⟩
 ·rw [msg_one]; omega
 ·rw [msg_one]; omega
theorem OwnG.lit {α:Type} {f:α → Value} {t:TypeId} {w:World} {cs:Array Value} {n:Nat} (xs:List α) (hc:cs = (xs.map f).toArray) (hn:xs.length = n) (hl:n ≤ 1000):OwnG t f w (w.alloc (.cells cs t)) (.slice (some ⟨w.heap.size,0,none⟩) n n) xs:=by
 subst hc hn
 refine ⟨⟨by simp,.inr ⟨w.heap.size,xs.length,_,rfl,Nat.le_refl _,heap_alloc_new w _,Nat.le_refl _,by unfold maxLen; omega,by simp,by rw [Nat.mul_one]; exact List.take_of_length_le (by simp)⟩⟩,al1p _ _⟩
theorem OwnG.empty' {α:Type} {f:α → Value} (t:TypeId) (w:World):OwnG t f w (w.alloc (.cells #[] t)) (.slice (some ⟨w.heap.size,0,none⟩) 0 0) []:=OwnG.lit [] rfl rfl (by decide)
theorem one_fls {u:World} {a:FA} (t:TypeId) (h:FaIn u a):Fls (u.alloc (.cells #[.int .i64 a.n,.int .i64 a.wr,.int .u64 a.x,.slice a.q a.d.length a.c] t)) (some ⟨u.heap.size,0,none⟩) 1 [a]:=by
 have hB:=Box.new u #[.int .i64 a.n,.int .i64 a.wr,.int .u64 a.x,.slice a.q a.d.length a.c] t
 refine ⟨⟨by simp,by omega,fun _ => ⟨u.heap.size,0,rfl,hB.lt,fun i hi j v hv => ?_⟩,fun h => by cases h⟩,fun b hb => ?_⟩
 ·have hi2:i = 0:=by simp at hi; omega
  subst hi2
  rw [hB.cell]
  simp only [Nat.zero_mul,Nat.zero_add]
  have hv2:[Value.int .i64 a.n,.int .i64 a.wr,.int .u64 a.x,.slice a.q a.d.length a.c][j]? = some v:=hv
  simpa using hv2
 ·simp only [List.mem_cons,List.not_mem_nil,or_false] at hb
  subst hb
  exact h.below (al1p _ _)
theorem mmessage_any (num:Int) (p:Option Addr) (c:Nat) (b:List Int) (w:World) (hn:(Lit.int .i64 num).wf = true) (h:Ints .u8 w p c b) (hl:b.length ≤ 140737480000000) :
  Calls Tryz.prog 25 #[.int .i64 num,.slice p b.length c] w fun e w' => ∃ v,e = .returned v ∧ Hid (OwnG 5 (Value.int .u8) w w' v (writeV [blkF num b]).1 ∧ isB (writeV [blkF num b]).1):=by
 have C:=hide (rwriteO_any _ _ _ _ (one_fls (u:=w) (a:=⟨num,2,0,b,p,c⟩) 108 ⟨hn,rfl,rfl,h⟩) (by simp [sumD]; omega))
 have e1:[(⟨num,2,0,b,p,c⟩:FA)].map FA.f = [blkF num b]:=rfl
 rw [e1] at C
 simp only [List.length_cons,List.length_nil] at C
 generalize writeV [blkF num b] = R at C ⊢
 obtain ⟨R1,R2⟩:=R
 simp only at C ⊢
 clear h hn e1 hl
 go_enter Tryz.func25,Tryz.ntmps25
 go_wp2_with fail
 refine (uh C).mono ?_
 rintro e w1 ⟨v,rfl,hI⟩
 have H:=hide (And.intro ((uh hI).1.early (al1p _ _)) (uh hI).2)
 clear hI C
 go_wp2_with fail
 go_ret
 exact ⟨v,rfl,H⟩
theorem set4_size (w:World) (g:Nat) (u0 u1 u2 u3:Value):((((w.setCell ⟨g,0,none⟩ u0).setCell ⟨g,1,none⟩ u1).setCell ⟨g,2,none⟩ u2).setCell ⟨g,3,none⟩ u3).heap.size = w.heap.size:=by simp
theorem and1023_i64 (n:Int):bits .and .i64 n 1023 = n % 1024:=by
 have h1:(BitVec.ofInt 64 1023).toNat = 2 ^ 10 - 1:=by decide
 have key:(BitVec.ofInt 64 n &&& BitVec.ofInt 64 1023).toNat = (n % ((2 ^ 64:Nat):Int)).toNat % 2 ^ 10:=by
  rw [BitVec.toNat_and,BitVec.toNat_ofInt,h1,Nat.and_two_pow_sub_one_eq_mod]
 show IntKind.i64.wrap ((BitVec.ofInt 64 n &&& BitVec.ofInt 64 1023).toNat:Nat) = n % 1024
 rw [key,IntKind.wrap_i64]
 omega
theorem munknown_any (num x:Int) (text:Bool) (w:World) (hn:(Lit.int .i64 num).wf = true) (hx:(Lit.int .u64 x).wf = true) :
  Calls Tryz.prog 24 #[.int .i64 num,.int .u64 x,.bool text] w fun e w' => ∃ v,e = .returned v ∧ Hid (OwnG 5 (Value.int .u8) w w' v (writeV [oddF num x text]).1 ∧ isB (writeV [oddF num x text]).1):=by
 obtain ⟨x0,x1⟩:=u64_range hx
 have hm:0 ≤ num % 1024 ∧ num % 1024 < 1024:=⟨Int.emod_nonneg _ (by decide),Int.emod_lt_of_pos _ (by decide)⟩
 have hlen:(varV x).length ≤ 10:=(varV_len x).2
 have hand:=and1023_i64 num
 obtain ⟨N,hN⟩:∃ N,num % 1024 = N:=⟨_,rfl⟩
 rw [hN] at hand hm
 have hk:(Lit.int .i64 (100 + N)).wf = true:=by
  simp [Lit.wf,IntKind.min,IntKind.max,IntKind.signed,IntKind.bits]; omega
 have CV:=hide (fun v => rvarint_any x v x0 x1)
 have HVB:=hide (varV_range x0 x1)
 have CW:Hid (∀ (v:World) (k:Nat) (wr y:Int) (b:List Int) (p:Option Addr) (c:Nat),v.heap.size = k → (Lit.int .i64 wr).wf = true → (Lit.int .u64 y).wf = true → Ints .u8 v p c b → b.length ≤ 10 → Calls Tryz.prog 56 #[.slice (some ⟨k,0,none⟩) 1 1] (v.alloc (.cells #[.int .i64 (100 + N),.int .i64 wr,.int .u64 y,.slice p b.length c] 108)) fun e w' => ∃ u,e = .returned (.tuple #[u,.int .i64 (writeV [(100 + N,wr,y,b)]).2]) ∧ Hid (OwnG 5 (Value.int .u8) v w' u (writeV [(100 + N,wr,y,b)]).1 ∧ isB (writeV [(100 + N,wr,y,b)]).1)):=hide (fun v k wr y b p c h0 h1 h2 h3 h4 => by
  subst h0
  have:=rwriteO_any _ _ _ _ (one_fls (u:=v) (a:=⟨100 + N,wr,y,b,p,c⟩) 108 ⟨hk,h1,h2,h3⟩) (by simp [sumD]; omega)
  refine this.mono fun e u hh => ?_
  obtain ⟨v1,he,hI⟩:=hh
  exact ⟨v1,he,hide ⟨(uh hI).1.early (al1p _ _),(uh hI).2⟩⟩)
 have hE:oddF num x text = if text then (100 + N,2,0,varV x) else (100 + N,0,x,[]):=by rw [← hN]; rfl
 obtain ⟨k1,k2⟩:=hm
 rw [hE]
 clear hE hN
 cases text
 ·simp only [Bool.false_eq_true,if_false]
  have C:=hide (fun v k (h0:v.heap.size = k) => uh CW v k 0 x [] none 0 h0 rfl hx (nilInts _ _) (by simp))
  clear CW CV HVB hx hn hk
  generalize writeV [(100 + N,0,x,[])] = R at C ⊢
  obtain ⟨R1,R2⟩:=R
  simp only [List.length_nil] at C ⊢
  have X0:=hide (Box.new w #[.int .i64 (100 + N),.int .i64 0,.int .u64 x,.slice none 0 0] 108)
  have x9:=(uh X0).cell
  have z9:=(uh X0).lt
  go_enter Tryz.func24,Tryz.ntmps24
  go_wp2_with fail
  refine (uh C _ _ (alloc_size6 _ _)).mono ?_
  rintro e w1 ⟨v1,rfl,hI⟩
  have H:=hide (And.intro ((uh hI).1.early (al1p _ _)) (uh hI).2)
  clear hI C x9 z9
  go_wp2_with fail
  go_ret
  exact ⟨_,rfl,H⟩
 ·simp only [if_true]
  have C:=hide (fun v k p c (h0:v.heap.size = k) h => uh CW v k 2 0 (varV x) p c h0 rfl rfl h hlen)
  clear CW hx hn hk
  generalize writeV [(100 + N,2,0,varV x)] = R at C ⊢
  obtain ⟨R1,R2⟩:=R
  generalize varV x = V at C CV HVB hlen
  simp only at C ⊢
  have X0:=hide (Box.new w #[.int .i64 (100 + N),.int .i64 0,.int .u64 x,.slice none 0 0] 108)
  have x9:=(uh X0).cell
  have z9:=(uh X0).lt
  go_enter Tryz.func24,Tryz.ntmps24
  go_wp2_with fail
  refine (uh CV _).mono ?_
  rintro e w1 ⟨v1,rfl,hO⟩
  obtain ⟨q1,d1,hq1,hL1,hF1⟩:=hO.form
  subst hq1
  have I1:=hide ((hL1.mid (Mid.set4 (Mid.refl w.heap.size (w.heap.size + 1) w1) (Nat.le_refl _) (Nat.lt_succ_self _) (.int .i64 (100 + N)) (.int .i64 2) (.int .u64 0) (.slice q1 V.length d1)) (fun b o e hp => .inr (by have:=(hF1 b o e hp).1; rw [alloc_size6] at this; exact this))).ints (isB_wf (uh HVB)))
  have B1:=hide (bset4 (bl_tr (al1p _ _) hO.2) (Nat.le_refl _) (.int .i64 (100 + N)) (.int .i64 2) (.int .u64 0) (.slice q1 V.length d1))
  have Y0:=hide (((uh X0).below hO.2).set4 (.int .i64 (100 + N)) (.int .i64 2) (.int .u64 0) (.slice q1 V.length d1))
  replace X0:=hide ((uh X0).below hO.2)
  clear hO hL1 hF1 x9 z9 CV
  have x9:=(uh X0).cell
  have z9:=(uh X0).lt
  have f9:=(uh X0).frozen
  have y9:=(uh Y0).cell
  have y8:=(uh Y0).lt
  go_wp2_with fail
  refine (uh C _ _ _ _ (set4_size _ _ _ _ _ _) (uh I1)).mono ?_
  rintro e w2 ⟨v2,rfl,hI⟩
  have H:=hide (And.intro ((uh hI).1.early (uh B1)) (uh hI).2)
  clear hI C x9 z9 f9 y9 y8 I1 B1
  go_wp2_with fail
  go_ret
  exact ⟨_,rfl,H⟩
theorem mparts_any (p:Option Addr) (c:Nat) (b:List Int) (w:World) (h:Ints .u8 w p c b) (hl:b.length ≤ 4194304) :
  Calls Tryz.prog 23 #[.slice p b.length c] w fun e w' => (∃ q d,e = .returned (.tuple #[.slice q (partsV b).1.length d,.bool (partsV b).2]) ∧ Ints .u8 w' q d (partsV b).1) ∧ Below w.heap.size w w':=by
 have RD:=hide (rread_any p c b w h)
 have hb:=wf_isB h.2.2.1
 have HR:Hid (∀ L:List FA,L.map FA.f = (readV b).1 → sumD L + L.length ≤ 4194304):=hide (fun L hL => read_sum hb hl hL)
 have HP:Hid (∀ R,partsV b = R → R = if (readV b).2 = 0 then ((joinV (readV b).1 7).1,(joinV (readV b).1 7).2.1 && (joinV (readV b).1 7).2.2 == 0) else ([],false)):=hide (fun R hR => by rw [← hR]; rfl)
 generalize partsV b = R at HP ⊢
 replace HP:=uh HP R rfl
 generalize readV b = V at RD HR HP
 obtain ⟨V1,V2⟩:=V
 simp only at RD HR HP
 clear h hb hl
 by_cases h0:V2 = 0
 ·rw [if_pos h0] at HP
  subst h0
  have JN:Hid (∀ (q:Option Addr) (d:Nat) (L:List FA) (v:World),L.map FA.f = V1 → Fls v q d L → Calls Tryz.prog 54 #[.slice q L.length d,.int .i64 7] v fun e w' => (∃ q d,e = .returned (.tuple #[.slice q (joinV V1 7).1.length d,.bool (joinV V1 7).2.1,.int .i64 (joinV V1 7).2.2]) ∧ Ints .u8 w' q d (joinV V1 7).1) ∧ Below v.heap.size v w'):=hide (fun q d L v hL hF => by
   have hs:=uh HR L hL
   have k:=rjoined_any q d L 7 v hF (by omega) (by omega)
   rw [hL] at k
   refine k.mono fun e u hh => ?_
   obtain ⟨⟨q,d,he,hi,_⟩,hb⟩:=hh
   exact ⟨⟨q,d,he,hi⟩,hb⟩)
  clear HR
  generalize joinV V1 7 = J at JN HP
  obtain ⟨J1,J2,J3⟩:=J
  simp only at JN HP
  have hJ:J2 = false ∨ J2 = true ∧ (J3 == 0) = true ∨ J2 = true ∧ (J3 == 0) = false:=by
   cases J2
   ·exact .inl rfl
   ·cases hj:(J3 == 0)
    ·exact .inr (.inr ⟨rfl,rfl⟩)
    ·exact .inr (.inl ⟨rfl,rfl⟩)
  subst HP
  simp only
  rcases hJ with hj | ⟨hj,h3⟩ | ⟨hj,h3⟩
  all_goals
   subst hj
   simp only [Bool.false_and,Bool.true_and]
   try rw [h3]
   go_enter Tryz.func23,Tryz.ntmps23
   go_wp2_with fail
   refine (uh RD).mono ?_
   rintro e w1 ⟨⟨q,d,L,rfl,hL⟩,hb⟩
   have J:=hide (uh JN q d L w1 (uh hL).1 (uh hL).2)
   have B:=hide hb
   clear hL hb RD JN
   go_wp2_with fail
   refine (uh J).mono ?_
   rintro e w2 ⟨⟨q2,d2,rfl,hI⟩,hb⟩
   have I2:=hide (And.intro hI (bl_tr (uh B) hb))
   clear hI hb J B
   go_wp2_with fail
   go_ret2
   exact ⟨⟨q2,d2,rfl,(uh I2).1⟩,(uh I2).2⟩
 ·rw [if_neg h0] at HP
  subst HP
  have t0:(V2 != 0) = true:=bneTp h0
  clear h0 HR
  simp only [List.length_nil]
  go_enter Tryz.func23,Tryz.ntmps23
  go_wp2_with fail
  refine (uh RD).mono ?_
  rintro e w1 ⟨⟨q,d,L,rfl,hL⟩,hb⟩
  have B:=hide hb
  clear hL hb RD
  go_wp2_with fail
  go_ret2
  exact ⟨⟨none,0,rfl,nilInts _ _⟩,uh B⟩
end Go.Proofs.YtaikppgoahdjbaaGreat
