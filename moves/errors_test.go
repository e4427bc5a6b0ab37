package moves_test

import (
	"math"
	"testing"

	"lattice/api"
	"lattice/moves"
)

// P12.1: the operators from Transpose to SpaceToDepth, but Constant, and no others.
func TestHas(t *testing.T) {
	for op := -100; op <= 200; op++ {
		if got := moves.Has(op); got != (op >= 45 && op <= 64 && op != 61) {
			t.Errorf("Has(%d): %t", op, got)
		}
	}
	for _, op := range []int{math.MinInt, math.MinInt + 45, -1 << 32, 1<<32 + 45, math.MaxInt} {
		if moves.Has(op) {
			t.Errorf("Has(%d)", op)
		}
	}
	if !moves.Has(api.OpTranspose) || !moves.Has(api.OpSpaceToDepth) || moves.Has(api.OpCast) || moves.Has(api.OpConstant) || moves.Has(api.OpReduceSum) {
		t.Error("Has does not begin with Transpose, does not end with SpaceToDepth, or has Constant")
	}
}

// refused are tensors that may not be, with Check's error.
func refused() []struct {
	t   api.Tensor
	err string
} {
	return []struct {
		t   api.Tensor
		err string
	}{
		{api.Tensor{Type: 2, Dims: []int{1}, F: []uint32{1}}, "ErrType"},
		{api.Tensor{Type: -1}, "ErrType"},
		{api.Tensor{Type: api.Float, Dims: []int{2}, F: []uint32{1}}, "ErrShape"},
		{api.Tensor{Type: api.Float, Dims: []int{1}, F: []uint32{1}, I: []int64{1}}, "ErrShape"},
		{api.Tensor{Type: api.Bool}, "ErrShape"},
		{api.Tensor{Type: api.Int, Dims: []int{-1}}, "ErrArg"},
		{api.Tensor{Type: api.Int, Dims: []int{4097}}, "ErrSize"},
		{api.Tensor{Type: api.Bool, Dims: []int{0, 1, 1, 1, 1, 1, 1, 1, 1}}, "ErrSize"},
	}
}

// P12.1: an operator that is none of these is refused, ahead of all else.
func TestOtherOperators(t *testing.T) {
	for _, op := range []int{math.MinInt, -1, 0, 1, 44, 61, 65, 73, 80, 81, math.MaxInt} {
		for _, outs := range []int{-1, 0, 1, 2} {
			answers(t, op, plain, nil, outs, "ErrArg")
			answers(t, op, plain, tensors("f:3F800000"), outs, "ErrArg")
			for _, r := range refused() {
				answers(t, op, plain, []api.Tensor{r.t}, outs, "ErrArg")
			}
		}
	}
}

// P12.1: the first tensor that may not be is told ahead of all that infer refuses.
func TestTensorsMayBe(t *testing.T) {
	one := tensor("f:3F800000")
	for _, r := range refused() {
		for _, op := range all() {
			for _, outs := range []int{0, 1} {
				answers(t, op, plain, []api.Tensor{r.t}, outs, r.err)
				answers(t, op, plain, []api.Tensor{one, r.t}, outs, r.err)
				answers(t, op, plain, []api.Tensor{one, {}, one, one, r.t, one, one}, outs, r.err)
				for _, other := range refused() {
					answers(t, op, plain, []api.Tensor{{}, r.t, other.t}, outs, r.err)
				}
			}
		}
	}
}

// P12.1: what is left out may have anything in its lists, and none of that counts.
func TestLeftOut(t *testing.T) {
	for _, r := range append(refused(), refused()[0]) {
		gone := r.t
		gone.Type = api.None
		junk := api.Tensor{Dims: []int{3, -1}, F: []uint32{9}, I: []int64{9}, B: []bool{true}}
		for _, g := range []api.Tensor{gone, junk} {
			answers(t, api.OpPad, plain, []api.Tensor{tensor("i:1,2"), ints(1, 0), g}, 1, "i:0,1,2")
			answers(t, api.OpPad, plain, []api.Tensor{tensor("f:1,2"), ints(1, 0), g}, 1, "f:00000000,00000001,00000002")
			answers(t, api.OpPad, plain, []api.Tensor{tensor("b:0"), ints(1, 0), g}, 1, "b:0,0")
			answers(t, api.OpSlice, plain, []api.Tensor{tensor("i:1,2,3"), ints(0), ints(2), g, g}, 1, "i:1,2")
			answers(t, api.OpSqueeze, plain, []api.Tensor{tensor("i1.1:1"), g}, 1, "i.:1")
			answers(t, api.OpSplit, plain, []api.Tensor{tensor("i:1,2"), g}, 2, "i:1 i:2")
			answers(t, api.OpGather, plain, []api.Tensor{tensor("i:1,2"), g}, 1, "ErrArg")
			answers(t, api.OpTranspose, plain, []api.Tensor{g}, 1, "ErrArg")
		}
	}
}

// P12.1: what infer refuses, with its error: as many inputs as an operator takes, and no others.
func TestArity(t *testing.T) {
	least := map[int]int{api.OpReshape: 2, api.OpSlice: 3, api.OpGather: 2, api.OpGatherElements: 2, api.OpScatterElements: 3, api.OpPad: 2, api.OpTile: 2, api.OpExpand: 2, api.OpUnsqueeze: 2}
	most := map[int]int{api.OpConcat: 64, api.OpSplit: 2, api.OpSlice: 5, api.OpPad: 3, api.OpSqueeze: 2}
	for _, op := range all() {
		few := max(least[op], 1)
		for count := range 67 {
			in := make([]api.Tensor, count)
			for i := range in {
				in[i] = ints(0)
			}
			_, err := moves.Do(op, plain, in, 1)
			if wrong := count < few || count > max(few, most[op]); wrong != (err == api.ErrArg) {
				t.Errorf("operator %d of %d inputs: %v", op, count, err)
			}
			holds(t, node{op: op, in: in, outs: 1})
		}
		for i := range few {
			in := []api.Tensor{ints(0), ints(0), ints(0)}[:few]
			in[i] = api.Tensor{}
			answers(t, op, plain, in, 1, "ErrArg")
		}
	}
}

// P12.1: each operator, of each type: just what infer takes is moved.
func TestAllTypes(t *testing.T) {
	some := tensors("f:3F800000 i:0 b:1 f.:3F800000 i.:0 b.:0 i1.1.1.1:5 i:")
	for _, op := range all() {
		for _, s := range []api.Setting{cut(1, 0), cut(1, api.ModeAdd), {Value: some[0]}} {
			for _, x := range some {
				holds(t, node{op: op, s: s, in: []api.Tensor{x}, outs: 1})
				for _, y := range some {
					holds(t, node{op: op, s: s, in: []api.Tensor{x, y}, outs: 1})
					for _, z := range some {
						holds(t, node{op: op, s: s, in: []api.Tensor{x, y, z}, outs: 1})
					}
				}
			}
		}
	}
}
