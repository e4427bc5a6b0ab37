package infer_test

import (
	"fmt"
	"slices"
	"testing"

	"lattice/api"
)

// toldCase is an operator with a told list at a place, and inputs with which it is taken.
type toldCase struct {
	op, at int
	s      api.Setting
	in     string
}

// toldCases: each told list of each operator.
func toldCases() []toldCase {
	value := api.Setting{Value: zeros(api.Float, 1)}
	list := []toldCase{
		{api.OpReshape, 1, plain, "f2.3 t6"},
		{api.OpSplit, 1, plain, "f2.3 t2"},
		{api.OpPad, 1, plain, "f2.3 t0,0,0,0"},
		{api.OpPad, 1, plain, "f2.3 t0,0,0,0 f"},
		{api.OpTile, 1, plain, "f2.3 t1,1"},
		{api.OpExpand, 1, plain, "f2.3 t1"},
		{api.OpSqueeze, 1, plain, "f2.3 t"},
		{api.OpUnsqueeze, 1, plain, "f2.3 t0"},
		{api.OpConstantOfShape, 0, value, "t2"},
		{api.OpReduceSum, 1, plain, "f2.3 t0"},
	}
	for at := 1; at <= 4; at++ {
		list = append(list, toldCase{api.OpSlice, at, plain, "f2.3 t0 t1 t0 t1"})
	}
	return list
}

// P10.1: each told list must be Int, a constant whose tensor may be and is what the value says, and of rank 1.
func TestToldLists(t *testing.T) {
	for _, c := range toldCases() {
		in := vals(c.in)
		if _, err := wantNode(c.op, c.s, in, 1); err != api.OK {
			t.Fatalf("%+v: %v", c, err)
		}
		try := func(want string, change func(v *api.Val)) {
			t.Helper()
			other := slices.Clone(in)
			change(&other[c.at])
			gives(t, c.op, c.s, other, 1, want)
		}
		n := in[c.at].Dims[0]
		try("ErrType", func(v *api.Val) { v.Type = api.Float })
		try("ErrType", func(v *api.Val) { v.Type = api.Bool })
		try("ErrType", func(v *api.Val) { v.Type = 6 })
		try("ErrType", func(v *api.Val) { *v = constant(zeros(api.Float, n)) })
		try("ErrType", func(v *api.Val) { *v = constant(zeros(api.Bool, n)) })
		try("ErrConst", func(v *api.Val) { v.Const = false })
		try("ErrConst", func(v *api.Val) { v.T = api.Tensor{} })
		try("ErrConst", func(v *api.Val) { v.T = zeros(api.Float, n) })
		try("ErrConst", func(v *api.Val) { v.T.Type = api.Float })
		try("ErrConst", func(v *api.Val) { v.Dims = []int{n + 1} })
		try("ErrConst", func(v *api.Val) { v.Dims = []int{n, 1} })
		try("ErrConst", func(v *api.Val) { v.Dims = nil })
		try("ErrConst", func(v *api.Val) { v.T.Dims = []int{1, n} })
		try("ErrConst", func(v *api.Val) { v.T.I = append(slices.Clone(v.T.I), 1) })
		try("ErrConst", func(v *api.Val) { v.T.F = []uint32{1} })
		try("ErrConst", func(v *api.Val) { v.T.B = []bool{true} })
		try("ErrConst", func(v *api.Val) { v.T.Dims = []int{-1} })
		try("ErrConst", func(v *api.Val) { v.Dims, v.Const = []int{1, n}, false })
		try("ErrShape", func(v *api.Val) { *v = constant(whole(nil, 1)) })
		try("ErrShape", func(v *api.Val) { *v = constant(whole([]int{1, 1}, 1)) })
		try("ErrShape", func(v *api.Val) { *v = constant(whole([]int{0, 1})) })
		try("ErrShape", func(v *api.Val) { *v = constant(whole([]int{1, 1}, 4097)) })
		much := "ErrSize"
		if c.op == api.OpSlice {
			much = words(wantNode(c.op, c.s, append(slices.Clone(in[:c.at]), append([]api.Val{told(4097)}, in[c.at+1:]...)...), 1))
		}
		try(much, func(v *api.Val) { *v = told(4097) })
		if c.op != api.OpSlice {
			try("ErrSize", func(v *api.Val) { *v = told(-1, -1, 1<<62) })
			try("ErrSize", func(v *api.Val) { *v = told(4097, -1) })
		}
	}
}

// P10.1: what a told list says is not what another operator's constant is: constants elsewhere are values like others.
func TestConstantsElsewhere(t *testing.T) {
	five := constant(whole([]int{1}, 5))
	gives(t, api.OpAdd, plain, []api.Val{five, val("i3")}, 1, "i3")
	gives(t, api.OpGather, plain, []api.Val{val("f3"), five}, 1, "f1")
	broken := five
	broken.T = api.Tensor{Type: 3, Dims: []int{-1}}
	gives(t, api.OpAdd, plain, []api.Val{broken, val("i3")}, 1, "i3")
	gives(t, api.OpIdentity, plain, []api.Val{broken}, 1, "i1")
	gives(t, api.OpReshape, plain, []api.Val{broken, told(1, 1)}, 1, "i1.1")
	gives(t, api.OpReshape, plain, []api.Val{broken, broken}, 1, "ErrConst")
}

// ranked are faults of a Slice, from the one that is told first on: two of them at one time, the first one is told.
func TestOrderOfTold(t *testing.T) {
	wrong := []struct {
		v    api.Val
		want string
	}{
		{api.Val{Type: api.Float, Dims: []int{9, 9, 9, 9}}, "ErrSize"},
		{val("f1"), "ErrType"},
		{val("i1"), "ErrConst"},
		{constant(whole(nil, 0)), "ErrShape"},
		{told(9, 9), "ErrShape"},
	}
	for i, a := range wrong {
		for j, b := range wrong {
			for at := 1; at <= 4; at++ {
				for other := 1; other <= 4; other++ {
					if at == other {
						continue
					}
					in := vals("f2.3 t0 t1 t0 t1")
					in[at], in[other] = a.v, b.v
					gives(t, api.OpSlice, plain, in, 1, wrong[min(i, j)].want)
				}
			}
		}
	}
}

// fault is something wrong with a node; its rank is the place in the order in which the chapter asks.
type fault struct {
	rank int
	want string
	do   func(op *int, s *api.Setting, in []api.Val)
}

// P10.1: of several faults the first one by class is told, whichever stands first in the row.
func TestOrderOfFaults(t *testing.T) {
	const arg, size, kind, attr, constant0, toldShape, toldSize, own, output = 0, 1, 2, 3, 4, 5, 6, 7, 8
	put := func(at int, v api.Val) func(*int, *api.Setting, []api.Val) {
		return func(_ *int, _ *api.Setting, in []api.Val) { in[at] = v }
	}
	axis := func(_ *int, s *api.Setting, _ []api.Val) { s.Axis = 5 }
	rows := []struct {
		op     int
		s      api.Setting
		in     string
		outs   int
		faults []fault
	}{
		{api.OpSplit, plain, "f4.3 t2,2", 2, []fault{
			{arg, "ErrArg", put(0, val("-"))}, {size, "ErrSize", put(0, val("f5000"))}, {kind, "ErrType", put(1, val("f2"))}, {attr, "ErrAttr", axis},
			{constant0, "ErrConst", put(1, val("i2"))}, {toldShape, "ErrShape", put(1, constant(whole([]int{1, 2}, 2, 2)))}, {toldSize, "ErrSize", put(1, told(4097, -1))}, {own, "ErrShape", put(1, told(2, 3))}}},
		{api.OpConcat, plain, "f2.3 f2.3 f2.3", 1, []fault{
			{arg, "ErrArg", put(0, val("-"))}, {size, "ErrSize", put(1, val("f64.65"))}, {kind, "ErrType", put(2, val("i2.3"))}, {kind, "ErrType", put(1, val("-"))}, {attr, "ErrAttr", axis},
			{own, "ErrShape", put(2, val("f2"))}, {own, "ErrShape", put(1, val("f2.4"))}, {own, "ErrShape", put(1, val("f4096.0"))}}},
		{api.OpConv, api.Setting{Group: 1}, "f1.2.5.5 f3.2.3.3 f3", 1, []fault{
			{arg, "ErrArg", put(1, val("-"))}, {size, "ErrSize", put(2, val("f4097"))}, {kind, "ErrType", put(2, val("i3"))}, {kind, "ErrType", put(0, val("b1.2.5.5"))},
			{attr, "ErrAttr", func(_ *int, s *api.Setting, _ []api.Val) { s.Group = 0 }}, {attr, "ErrAttr", func(_ *int, s *api.Setting, _ []api.Val) { s.Kernel = []int{3} }},
			{attr, "ErrAttr", func(_ *int, s *api.Setting, _ []api.Val) { s.Pads = []int{1, 1} }}, {attr, "ErrAttr", func(_ *int, s *api.Setting, _ []api.Val) { s.Strides = []int{1} }},
			{own, "ErrShape", put(0, val("f2.5.5"))}, {own, "ErrShape", put(2, val("f4"))}, {own, "ErrShape", func(_ *int, s *api.Setting, _ []api.Val) { s.Dilations = []int{0, 1} }}}},
		{api.OpReduceMean, plain, "f2.3", 1, []fault{
			{arg, "ErrArg", put(0, val("-"))}, {size, "ErrSize", put(0, val("i64.65"))}, {kind, "ErrType", put(0, val("i0.3"))},
			{attr, "ErrAttr", func(_ *int, s *api.Setting, _ []api.Val) { s.Axes = []int{1, 1} }}, {own, "ErrShape", put(0, val("f0.3"))}}},
		{api.OpMod, plain, "i2.3 i3", 1, []fault{
			{arg, "ErrArg", func(op *int, _ *api.Setting, _ []api.Val) { *op = 81 }}, {kind, "ErrType", put(1, val("b3"))}, {own, "ErrShape", put(1, val("i2"))}, {output, "ErrSize", put(1, val("i4096.1.1"))}}},
	}
	for _, r := range rows {
		for i, a := range r.faults {
			for j, b := range r.faults {
				op, s, in := r.op, r.s, vals(r.in)
				a.do(&op, &s, in)
				b.do(&op, &s, in)
				// Two at one place are one; the one that was put last holds.
				first := a
				if b.rank < a.rank || sameInput(r.op, r.s, r.in, a, b) {
					first = b
				}
				t.Run(fmt.Sprint(r.op, " ", i, " ", j), func(t *testing.T) { gives(t, op, s, in, r.outs, first.want) })
			}
		}
	}
}

// sameInput: do both faults change one input?
func sameInput(op int, s api.Setting, in string, a, b fault) bool {
	changed := func(f fault) int {
		list, before := vals(in), vals(in)
		n, set := op, s
		f.do(&n, &set, list)
		for i := range list {
			if !alike(list[i], before[i]) {
				return i
			}
		}
		return -1
	}
	return changed(a) >= 0 && changed(a) == changed(b)
}

// P10.1: a row's own errors in the order in which it names them, and an output's ErrSize behind them.
func TestOrderWithinRows(t *testing.T) {
	// Reshape: too many numbers ahead of all else of them; Expand: none below 0 ahead of what is together.
	says(t, api.OpReshape, plain, "f2 t-5,-1,-1,1,1,1,1,1,1", "ErrSize")
	says(t, api.OpReshape, plain, "f2 t-5,-1,-1,1,1,1,1,1", "ErrShape")
	says(t, api.OpExpand, plain, "f2 t-1,4096,4096", "ErrShape")
	says(t, api.OpExpand, plain, "f2 t4096,4096", "ErrSize")
	// Unsqueeze: the rank ahead of the axes.
	says(t, api.OpUnsqueeze, plain, "f1.1.1.1 t99,99,99,99,99", "ErrSize")
	says(t, api.OpUnsqueeze, plain, "f1.1.1.1 t99,99,99,99", "ErrShape")
	// Where: the first two ahead of the third.
	says(t, api.OpWhere, plain, "b64.1 f1.65 f3", "ErrSize")
	says(t, api.OpWhere, plain, "b2 f3 f4096.1", "ErrShape")
	// MatMul: what is summed over ahead of what goes together.
	says(t, api.OpMatMul, plain, "f2.1.3 f3.4.1", "ErrShape")
	says(t, api.OpMatMul, plain, "f64.1.1.0 f65.2.1", "ErrShape")
	says(t, api.OpMatMul, plain, "f64.1.1.0 f65.0.1", "ErrSize")
	// Gather, Concat, Tile, Pad, Gemm: the row's own ahead of the output's.
	says(t, api.OpConcat, plain, "f4096.0 f1.0 f1.2", "ErrShape")
	says(t, api.OpTile, plain, "f4096.1 t4096,-1", "ErrShape")
	says(t, api.OpPad, plain, "f1.1 t4096,-1,0,0", "ErrShape")
	says(t, api.OpPad, plain, "f1 t4096,0 f1", "ErrShape")
	says(t, api.OpGemm, plain, "f100.2 f3.100", "ErrShape")
	says(t, api.OpConstantOfShape, api.Setting{Value: zeros(api.Float)}, "t4096,4096,-1", "ErrShape")
}
