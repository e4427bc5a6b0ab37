package ewise_test

import (
	"slices"
	"strings"
	"testing"

	"lattice/api"
	"lattice/ewise"
	"lattice/infer"
)

// refused are tensors that may not be, with Check's error.
func refused() []struct {
	t   api.Tensor
	err string
} {
	return []struct {
		t   api.Tensor
		err string
	}{
		{api.Tensor{Type: 2, Dims: []int{1}, F: []uint32{1}}, "ErrType"},
		{api.Tensor{Type: -1}, "ErrType"},
		{api.Tensor{Type: api.Float, Dims: []int{2}, F: []uint32{1}}, "ErrShape"},
		{api.Tensor{Type: api.Float, Dims: []int{1}, F: []uint32{1}, I: []int64{1}}, "ErrShape"},
		{api.Tensor{Type: api.Bool}, "ErrShape"},
		{api.Tensor{Type: api.Int, Dims: []int{-1}}, "ErrArg"},
		{api.Tensor{Type: api.Int, Dims: []int{4097}}, "ErrSize"},
		{api.Tensor{Type: api.Bool, Dims: []int{0, 1, 1, 1, 1, 1, 1, 1, 1}}, "ErrSize"},
	}
}

// P11.2: an operator that is none of these is refused, ahead of all else.
func TestOtherOperators(t *testing.T) {
	for _, op := range []int{-1 << 63, -1, 0, 45, 46, 61, 73, 80, 81, 1 << 62} {
		answers(t, op, plain, nil, "ErrArg")
		gives(t, op, plain, "f:3F800000", "ErrArg")
		for _, r := range refused() {
			answers(t, op, plain, []api.Tensor{r.t}, "ErrArg")
		}
		for _, place := range []int{-1, 0, 1, 9} {
			if got, err := ewise.Part(op, plain, tensors("f:3F800000"), place, place); err != api.ErrArg || !isZero(got) {
				t.Errorf("Part of operator %d from %d: %v", op, place, err)
			}
		}
	}
}

// P11.2: the first tensor that may not be is told ahead of all that infer refuses; what is left out may be anything.
func TestTensorsMayBe(t *testing.T) {
	one := tensor("f:3F800000")
	for _, r := range refused() {
		for op := 1; op <= 44; op++ {
			answers(t, op, plain, []api.Tensor{r.t}, r.err)
			answers(t, op, plain, []api.Tensor{one, r.t}, r.err)
			answers(t, op, plain, []api.Tensor{one, {}, one, one, r.t, one}, r.err)
			for _, other := range refused() {
				answers(t, op, plain, []api.Tensor{{}, r.t, other.t}, r.err)
			}
		}
		gone := r.t
		gone.Type = api.None
		answers(t, api.OpClip, plain, []api.Tensor{one, gone, tensor("f.:3F000000")}, "f:3F000000")
		answers(t, api.OpClip, plain, []api.Tensor{one, gone, gone}, "f:3F800000")
		answers(t, api.OpAdd, plain, []api.Tensor{one, gone}, "ErrArg")
		answers(t, api.OpRelu, plain, []api.Tensor{gone}, "ErrArg")
	}
}

// P11.2: what infer refuses, with its error.
func TestInfersErrors(t *testing.T) {
	for op := 1; op <= 44; op++ {
		answers(t, op, plain, nil, "ErrArg")
		answers(t, op, plain, []api.Tensor{}, "ErrArg")
		answers(t, op, plain, []api.Tensor{{}}, "ErrArg")
		answers(t, op, plain, tensors("f:3F800000 f:3F800000 f:3F800000 f:3F800000"), "ErrArg")
	}
	gives(t, api.OpAdd, plain, "f:3F800000", "ErrArg")
	gives(t, api.OpAdd, plain, "f:3F800000 f:3F800000 -", "ErrArg")
	gives(t, api.OpNeg, plain, "f:3F800000 -", "ErrArg")
	gives(t, api.OpAdd, plain, "f:3F800000 i:1", "ErrType")
	gives(t, api.OpAdd, plain, "b:1 b:1", "ErrType")
	gives(t, api.OpRelu, plain, "i:1", "ErrType")
	gives(t, api.OpPow, plain, "i:1 i:1", "ErrType")
	gives(t, api.OpPRelu, plain, "i:1 i:1", "ErrType")
	gives(t, api.OpNot, plain, "i:1", "ErrType")
	gives(t, api.OpLess, plain, "b:1 b:1", "ErrType")
	gives(t, api.OpWhere, plain, "i:1 i:1 i:1", "ErrType")
	gives(t, api.OpClip, plain, "b:1", "ErrType")
	gives(t, api.OpMod, plain, "f:3F800000 f:3F800000", "ErrAttr")
	gives(t, api.OpCast, plain, "f:3F800000", "ErrAttr")
	gives(t, api.OpCast, api.Setting{To: 2}, "f:3F800000", "ErrAttr")
	gives(t, api.OpAdd, plain, "f:3F800000,3F800000 f:3F800000,3F800000,3F800000", "ErrShape")
	gives(t, api.OpPRelu, plain, "f:3F800000 f:3F800000,3F800000", "ErrShape")
	gives(t, api.OpClip, plain, "f:3F800000 f:3F800000", "ErrShape")
	column := shaped(ofWholes(make([]int64, 65)), 65, 1)
	answers(t, api.OpAdd, plain, []api.Tensor{column, ofWholes(make([]int64, 64))}, "ErrSize")
	answers(t, api.OpAdd, plain, []api.Tensor{shaped(ofWholes(make([]int64, 64)), 64, 1), ofWholes(slices.Repeat([]int64{2}, 64))}, words(shaped(ofWholes(slices.Repeat([]int64{2}, 4096)), 64, 64), api.OK))
}

// P11.2: each operator, of each type: just what infer takes is worked out.
func TestAllTypes(t *testing.T) {
	some := map[string][]string{"f": {"f:40000000", "f.:40000000"}, "i": {"i:2", "i.:2"}, "b": {"b:1", "b.:1"}}
	for op := 1; op <= 44; op++ {
		for _, s := range []api.Setting{plain, fmod, {To: api.Float}, {To: api.Int}, {To: api.Bool}} {
			for _, first := range "fib" {
				for _, second := range "fib" {
					for _, third := range "fib" {
						text := strings.Join([]string{some[string(first)][0], some[string(second)][1], some[string(third)][1]}, " ")
						for n := range 4 {
							in := tensors(text)[:n]
							holds(t, op, s, in...)
							_, wantErr := infer.Node(op, s, wantVals(in), 1)
							if _, err := ewise.Do(op, s, in); err != wantErr {
								t.Errorf("operator %d of %s: %v, want %v", op, text, err, wantErr)
							}
						}
					}
				}
			}
		}
	}
}

// P11.2: a whole number that is divided by 0; only where that is asked for, and behind all else.
func TestDividedBy0(t *testing.T) {
	for _, op := range []int{api.OpDiv, api.OpMod} {
		for _, s := range []api.Setting{plain, fmod} {
			gives(t, op, s, "i:7 i:0", "ErrDivide")
			gives(t, op, s, "i:0 i.:0", "ErrDivide")
			gives(t, op, s, "i:1,2,3 i:1,1,0", "ErrDivide")
			gives(t, op, s, "i:1,2,3 i:0,1,1", "ErrDivide")
			gives(t, op, s, "i.:9 i2.2:1,2,0,3", "ErrDivide")
			gives(t, op, s, "i2.1:1,2 i3:1,0,3", "ErrDivide")
			gives(t, op, s, "i: i:0", "i:")
			gives(t, op, s, "i3.0: i.:0", "i3.0:")
			gives(t, op, s, "i0.1: i2:0,0", "i0.2:")
			gives(t, op, s, "i1:1 i0:", "i:")
			gives(t, op, s, "i:1,2 i:0,0,0", "ErrShape")
			gives(t, op, s, "i:1 i:0 i:0", "ErrArg")
			gives(t, op, s, "i:0 i:1", "i:0")
		}
	}
	gives(t, api.OpDiv, plain, "f:3F800000 f:00000000", "f:7F800000")
	gives(t, api.OpMod, fmod, "f:3F800000 f:00000000", "f:7FC00000")
	for _, op := range []int{api.OpAdd, api.OpSub, api.OpMul, api.OpMin, api.OpMax} {
		if _, err := ewise.Do(op, plain, tensors("i:0 i:0")); err != api.OK {
			t.Errorf("operator %d of 0 and 0: %v", op, err)
		}
	}
}
