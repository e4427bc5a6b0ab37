import Derived.ChangeMaps5
import Derived.Test.YtkpmfkkfcikfhaaV40
import Derived.Test.YtkpmfkkfcikfhaaV51
set_option maxRecDepth 100000
set_option maxHeartbeats 8000000
namespace Go.Proofs.Ytkpmfkkfcikfhaa
open Go.RowKit
set_option linter.unusedVariables false
set_option linter.unusedSimpArgs false
def NoSz (a:NoA):Prop:=(∀ x ∈ a.at',okT8 x.T) ∧ a.ca * 208 ≤ reachBytes
theorem ten8_part {H:Type} {enc:TypeId × Value → H} {W:World} {n:Nat} {cs:List Value} {y:DataW H × List MemPlace} (h:DataW.trod enc Try.prog W 0 (fun _ => true) true n 43 cs = some y) :
  ∃ T A,cs = (tenCells T A).toList ∧ TenT W.heap.size W T A ∧ ((∀ m ∈ y.1.weights Try.prog 43,m ≤ reachBytes) → okT8 T):=by
 obtain ⟨xs,n,_,hx,hsz,hlen,hfs⟩:=DataW.trod_struct Try.underlying43 h
 rw [show Try.prog.cellsOf 43 = 5 by kernel_rfl] at hsz
 match cs,hsz with
 | [v0,v1,v2,v3,v4],_ =>
   match xs,hlen with
   | [y0,y1,y2,y3,y4],_ =>
     have h0:=hfs 0 _ rfl
     change DataW.trod enc Try.prog W 0 (fun _ => true) true n 3 (([v0,v1,v2,v3,v4].drop 0).take (Try.prog.cellsOf 3)) = some y0 at h0
     rw [show Try.prog.cellsOf 3 = 1 by kernel_rfl] at h0
     change DataW.trod enc Try.prog W 0 (fun _ => true) true n 3 [v0] = some y0 at h0
     have h1:=hfs 1 _ rfl
     change DataW.trod enc Try.prog W 0 (fun _ => true) true n 37 (([v0,v1,v2,v3,v4].drop 1).take (Try.prog.cellsOf 37)) = some y1 at h1
     rw [show Try.prog.cellsOf 37 = 1 by kernel_rfl] at h1
     change DataW.trod enc Try.prog W 0 (fun _ => true) true n 37 [v1] = some y1 at h1
     have h2:=hfs 2 _ rfl
     change DataW.trod enc Try.prog W 0 (fun _ => true) true n 39 (([v0,v1,v2,v3,v4].drop 2).take (Try.prog.cellsOf 39)) = some y2 at h2
     rw [show Try.prog.cellsOf 39 = 1 by kernel_rfl] at h2
     change DataW.trod enc Try.prog W 0 (fun _ => true) true n 39 [v2] = some y2 at h2
     have h3:=hfs 3 _ rfl
     change DataW.trod enc Try.prog W 0 (fun _ => true) true n 40 (([v0,v1,v2,v3,v4].drop 3).take (Try.prog.cellsOf 40)) = some y3 at h3
     rw [show Try.prog.cellsOf 40 = 1 by kernel_rfl] at h3
     change DataW.trod enc Try.prog W 0 (fun _ => true) true n 40 [v3] = some y3 at h3
     have h4:=hfs 4 _ rfl
     change DataW.trod enc Try.prog W 0 (fun _ => true) true n 41 (([v0,v1,v2,v3,v4].drop 4).take (Try.prog.cellsOf 41)) = some y4 at h4
     rw [show Try.prog.cellsOf 41 = 1 by kernel_rfl] at h4
     change DataW.trod enc Try.prog W 0 (fun _ => true) true n 41 [v4] = some y4 at h4
     obtain ⟨a0,e0,f0,w0⟩:=DataW.trod_int Try.underlying3 h0
     obtain ⟨p1,c1,x1,e1,i1,k1⟩:=part_ints Try.underlying37 Try.underlying3 (by kernel_rfl) h1
     obtain ⟨p2,c2,x2,e2,i2,k2⟩:=part_ints Try.underlying39 Try.underlying38 (by kernel_rfl) h2
     obtain ⟨p3,c3,x3,e3,i3,k3⟩:=part_ints Try.underlying40 Try.underlying2 (by kernel_rfl) h3
     obtain ⟨p4,c4,x4,e4,i4,k4⟩:=part_bools Try.underlying41 Try.underlying4 (by kernel_rfl) h4
     simp only [List.cons.injEq,and_true] at e0 e1 e2 e3 e4
     subst e0 e1 e2 e3 e4
     have hw2:(∀ m ∈ y.1.weights Try.prog 43,m ≤ reachBytes) → ∀ m ∈ DataW.weightsEach Try.prog [3,37,39,40,41] [y0.1,y1.1,y2.1,y3.1,y4.1],m ≤ reachBytes:=by
      intro hw m hm
      apply hw m
      rw [hx]
      simp only [DataW.weights,Try.underlying43]
      exact hm
     simp only [DataW.weightsEach,List.mem_append] at hw2
     refine ⟨(a0,x1,x2,x3,x4),⟨p1,c1,p2,c2,p3,c3,p4,c4⟩,rfl,⟨⟨w0,i1,i2,i3,i4⟩,i1.tag _,i2.tag _,i3.tag _,i4.tag _⟩,fun hw => ?_⟩
     rw [show Try.prog.bytesOf 3 = 8 by kernel_rfl] at k1
     rw [show Try.prog.bytesOf 38 = 4 by kernel_rfl] at k2
     rw [show Try.prog.bytesOf 2 = 8 by kernel_rfl] at k3
     rw [show Try.prog.bytesOf 4 = 1 by kernel_rfl] at k4
     have q1:=k1 (fun m hm => hw2 hw m (by simp [hm]))
     have q2:=k2 (fun m hm => hw2 hw m (by simp [hm]))
     have q3:=k3 (fun m hm => hw2 hw m (by simp [hm]))
     have q4:=k4 (fun m hm => hw2 hw m (by simp [hm]))
     have l1:=i1.1
     have l2:=i2.1
     have l3:=i3.1
     have l4:=i4.1
     unfold reachBytes at q1 q2 q3 q4
     exact ⟨by simp only; omega,by simp only; omega,by simp only; omega,by simp only; omega⟩
theorem at8_part {H:Type} {enc:TypeId × Value → H} {W:World} {n:Nat} {cs:List Value} {y:DataW H × List MemPlace} (h:DataW.trod enc Try.prog W 0 (fun _ => true) true n 52 cs = some y) :
  ∃ a:AtA,cs = atCells a ∧ AtIn W.heap.size W a ∧ ((∀ m ∈ y.1.weights Try.prog 52,m ≤ reachBytes) → okT8 a.T):=by
 obtain ⟨xs,n,_,hx,hsz,hlen,hfs⟩:=DataW.trod_struct Try.underlying52 h
 rw [show Try.prog.cellsOf 52 = 12 by kernel_rfl] at hsz
 match cs,hsz with
 | [v0,v1,v2,v3,v4,v5,v6,v7,v8,v9,v10,v11],_ =>
   match xs,hlen with
   | [y0,y1,y2,y3,y4,y5,y6,y7],_ =>
     have h0:=hfs 0 _ rfl
     change DataW.trod enc Try.prog W 0 (fun _ => true) true n 9 (([v0,v1,v2,v3,v4,v5,v6,v7,v8,v9,v10,v11].drop 0).take (Try.prog.cellsOf 9)) = some y0 at h0
     rw [show Try.prog.cellsOf 9 = 1 by kernel_rfl] at h0
     change DataW.trod enc Try.prog W 0 (fun _ => true) true n 9 [v0] = some y0 at h0
     have h1:=hfs 1 _ rfl
     change DataW.trod enc Try.prog W 0 (fun _ => true) true n 3 (([v0,v1,v2,v3,v4,v5,v6,v7,v8,v9,v10,v11].drop 1).take (Try.prog.cellsOf 3)) = some y1 at h1
     rw [show Try.prog.cellsOf 3 = 1 by kernel_rfl] at h1
     change DataW.trod enc Try.prog W 0 (fun _ => true) true n 3 [v1] = some y1 at h1
     have h2:=hfs 2 _ rfl
     change DataW.trod enc Try.prog W 0 (fun _ => true) true n 38 (([v0,v1,v2,v3,v4,v5,v6,v7,v8,v9,v10,v11].drop 2).take (Try.prog.cellsOf 38)) = some y2 at h2
     rw [show Try.prog.cellsOf 38 = 1 by kernel_rfl] at h2
     change DataW.trod enc Try.prog W 0 (fun _ => true) true n 38 [v2] = some y2 at h2
     have h3:=hfs 3 _ rfl
     change DataW.trod enc Try.prog W 0 (fun _ => true) true n 2 (([v0,v1,v2,v3,v4,v5,v6,v7,v8,v9,v10,v11].drop 3).take (Try.prog.cellsOf 2)) = some y3 at h3
     rw [show Try.prog.cellsOf 2 = 1 by kernel_rfl] at h3
     change DataW.trod enc Try.prog W 0 (fun _ => true) true n 2 [v3] = some y3 at h3
     have h4:=hfs 4 _ rfl
     change DataW.trod enc Try.prog W 0 (fun _ => true) true n 9 (([v0,v1,v2,v3,v4,v5,v6,v7,v8,v9,v10,v11].drop 4).take (Try.prog.cellsOf 9)) = some y4 at h4
     rw [show Try.prog.cellsOf 9 = 1 by kernel_rfl] at h4
     change DataW.trod enc Try.prog W 0 (fun _ => true) true n 9 [v4] = some y4 at h4
     have h5:=hfs 5 _ rfl
     change DataW.trod enc Try.prog W 0 (fun _ => true) true n 43 (([v0,v1,v2,v3,v4,v5,v6,v7,v8,v9,v10,v11].drop 5).take (Try.prog.cellsOf 43)) = some y5 at h5
     rw [show Try.prog.cellsOf 43 = 5 by kernel_rfl] at h5
     change DataW.trod enc Try.prog W 0 (fun _ => true) true n 43 [v5,v6,v7,v8,v9] = some y5 at h5
     have h6:=hfs 6 _ rfl
     change DataW.trod enc Try.prog W 0 (fun _ => true) true n 39 (([v0,v1,v2,v3,v4,v5,v6,v7,v8,v9,v10,v11].drop 10).take (Try.prog.cellsOf 39)) = some y6 at h6
     rw [show Try.prog.cellsOf 39 = 1 by kernel_rfl] at h6
     change DataW.trod enc Try.prog W 0 (fun _ => true) true n 39 [v10] = some y6 at h6
     have h7:=hfs 7 _ rfl
     change DataW.trod enc Try.prog W 0 (fun _ => true) true n 40 (([v0,v1,v2,v3,v4,v5,v6,v7,v8,v9,v10,v11].drop 11).take (Try.prog.cellsOf 40)) = some y7 at h7
     rw [show Try.prog.cellsOf 40 = 1 by kernel_rfl] at h7
     change DataW.trod enc Try.prog W 0 (fun _ => true) true n 40 [v11] = some y7 at h7
     obtain ⟨a0,e0,w0⟩:=part_str Try.underlying9 h0
     obtain ⟨a1,e1,f1,w1⟩:=DataW.trod_int Try.underlying3 h1
     obtain ⟨a2,e2,f2,w2⟩:=DataW.trod_int Try.underlying38 h2
     obtain ⟨a3,e3,f3,w3⟩:=DataW.trod_int Try.underlying2 h3
     obtain ⟨a4,e4,w4⟩:=part_str Try.underlying9 h4
     obtain ⟨T5,A5,e5,i5,k5⟩:=ten8_part h5
     obtain ⟨p6,c6,x6,e6,i6,k6⟩:=part_ints Try.underlying39 Try.underlying38 (by kernel_rfl) h6
     obtain ⟨p7,c7,x7,e7,i7,k7⟩:=part_ints Try.underlying40 Try.underlying2 (by kernel_rfl) h7
     simp only [List.cons.injEq,and_true] at e0 e1 e2 e3 e4 e6 e7
     subst e0 e1 e2 e3 e4 e6 e7
     have hw2:(∀ m ∈ y.1.weights Try.prog 52,m ≤ reachBytes) → ∀ m ∈ DataW.weightsEach Try.prog [9,3,38,2,9,43,39,40] [y0.1,y1.1,y2.1,y3.1,y4.1,y5.1,y6.1,y7.1],m ≤ reachBytes:=by
      intro hw m hm
      apply hw m
      rw [hx]
      simp only [DataW.weights,Try.underlying52]
      exact hm
     simp only [DataW.weightsEach,List.mem_append] at hw2
     refine ⟨⟨a0,a1,a2,a3,a4,T5,A5,x6,p6,c6,x7,p7,c7⟩,?_,⟨w0,w1,w2,w3,w4,i5,⟨i6,i6.tag _⟩,i7,i7.tag _⟩,fun hw => k5 (fun m hm => hw2 hw m (by simp [hm]))⟩
     show _ = [strV a0,.int .i64 a1,.int .u32 a2,.int .i64 a3,strV a4] ++ (tenCells T5 A5).toList ++ [.slice p6 x6.length c6,.slice p7 x7.length c7]
     rw [← e5]
     rfl
theorem no8_part {H:Type} {enc:TypeId × Value → H} {W:World} {n:Nat} {cs:List Value} {y:DataW H × List MemPlace} (h:DataW.trod enc Try.prog W 0 (fun _ => true) true n 36 cs = some y) :
  ∃ a:NoA,cs = noCells a ∧ NoIn W.heap.size W a ∧ ((∀ m ∈ y.1.weights Try.prog 36,m ≤ reachBytes) → NoSz a):=by
 obtain ⟨xs,n,_,hx,hsz,hlen,hfs⟩:=DataW.trod_struct Try.underlying36 h
 rw [show Try.prog.cellsOf 36 = 5 by kernel_rfl] at hsz
 match cs,hsz with
 | [v0,v1,v2,v3,v4],_ =>
   match xs,hlen with
   | [y0,y1,y2,y3,y4],_ =>
     have h0:=hfs 0 _ rfl
     change DataW.trod enc Try.prog W 0 (fun _ => true) true n 9 (([v0,v1,v2,v3,v4].drop 0).take (Try.prog.cellsOf 9)) = some y0 at h0
     rw [show Try.prog.cellsOf 9 = 1 by kernel_rfl] at h0
     change DataW.trod enc Try.prog W 0 (fun _ => true) true n 9 [v0] = some y0 at h0
     have h1:=hfs 1 _ rfl
     change DataW.trod enc Try.prog W 0 (fun _ => true) true n 9 (([v0,v1,v2,v3,v4].drop 1).take (Try.prog.cellsOf 9)) = some y1 at h1
     rw [show Try.prog.cellsOf 9 = 1 by kernel_rfl] at h1
     change DataW.trod enc Try.prog W 0 (fun _ => true) true n 9 [v1] = some y1 at h1
     have h2:=hfs 2 _ rfl
     change DataW.trod enc Try.prog W 0 (fun _ => true) true n 25 (([v0,v1,v2,v3,v4].drop 2).take (Try.prog.cellsOf 25)) = some y2 at h2
     rw [show Try.prog.cellsOf 25 = 1 by kernel_rfl] at h2
     change DataW.trod enc Try.prog W 0 (fun _ => true) true n 25 [v2] = some y2 at h2
     have h3:=hfs 3 _ rfl
     change DataW.trod enc Try.prog W 0 (fun _ => true) true n 25 (([v0,v1,v2,v3,v4].drop 3).take (Try.prog.cellsOf 25)) = some y3 at h3
     rw [show Try.prog.cellsOf 25 = 1 by kernel_rfl] at h3
     change DataW.trod enc Try.prog W 0 (fun _ => true) true n 25 [v3] = some y3 at h3
     have h4:=hfs 4 _ rfl
     change DataW.trod enc Try.prog W 0 (fun _ => true) true n 34 (([v0,v1,v2,v3,v4].drop 4).take (Try.prog.cellsOf 34)) = some y4 at h4
     rw [show Try.prog.cellsOf 34 = 1 by kernel_rfl] at h4
     change DataW.trod enc Try.prog W 0 (fun _ => true) true n 34 [v4] = some y4 at h4
     obtain ⟨a0,e0,w0⟩:=part_str Try.underlying9 h0
     obtain ⟨a1,e1,w1⟩:=part_str Try.underlying9 h1
     obtain ⟨p2,c2,x2,e2,w2,i2⟩:=part_strs Try.underlying25 Try.underlying9 (by kernel_rfl) h2
     obtain ⟨p3,c3,x3,e3,w3,i3⟩:=part_strs Try.underlying25 Try.underlying9 (by kernel_rfl) h3
     obtain ⟨p4,c4,x4,e4,r4,i4,k4⟩:=part_rows (z:=noAtA) atWd Try.underlying34 (by kernel_rfl) (fun n cs y h => at8_part h) h4
     simp only [List.cons.injEq,and_true] at e0 e1 e2 e3 e4
     subst e0 e1 e2 e3 e4
     have hw2:(∀ m ∈ y.1.weights Try.prog 36,m ≤ reachBytes) → ∀ m ∈ DataW.weightsEach Try.prog [9,9,25,25,34] [y0.1,y1.1,y2.1,y3.1,y4.1],m ≤ reachBytes:=by
      intro hw m hm
      apply hw m
      rw [hx]
      simp only [DataW.weights,Try.underlying36]
      exact hm
     simp only [DataW.weightsEach,List.mem_append] at hw2
     exact ⟨⟨a0,a1,x2,p2,c2,x3,p3,c3,x4,p4,c4⟩,rfl,⟨w0,w1,⟨w2,i2,i2.tag _⟩,⟨w3,i3,i3.tag _⟩,i4,r4,r4.tag _⟩,fun hw => ⟨(k4 (fun m hm => hw2 hw m (by simp [hm]))).1,by have q:=(k4 (fun m hm => hw2 hw m (by simp [hm]))).2; rw [show Try.prog.bytesOf 52 = 208 by kernel_rfl] at q; exact q⟩⟩
theorem no8_open {H:Type} {enc:TypeId × Value → H} {W:World} {base:Nat} {v:Value} {d:DataW H} {ps:List MemPlace}
  (hv:Value.okWide Try.prog W .any base 36 v) (h:DataW.Trod enc Try.prog W 0 (fun _ => true) true 36 v d ps) :
  ∃ a:NoA,v = .agg (noCells a).toArray ∧ NoIn W.heap.size W a ∧ ((∀ m ∈ d.weights Try.prog 36,m ≤ reachBytes) → NoSz a):=by
 obtain ⟨cs,rfl,hsz⟩:=Go.WideShapes.okWide_struct Try.underlying36 hv
 obtain ⟨fuel,hf⟩:=h
 obtain ⟨a,e,h1,h2⟩:=no8_part hf
 obtain ⟨l⟩:=cs
 simp only [Value.cells] at e
 refine ⟨a,?_,h1,h2⟩
 rw [← e]
end Go.Proofs.Ytkpmfkkfcikfhaa
