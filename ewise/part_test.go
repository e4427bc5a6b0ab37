package ewise_test

import (
	"math"
	"testing"

	"lattice/api"
	"lattice/ewise"
)

// part asks Part for elements that are there, or an error.
func part(t *testing.T, op int, s api.Setting, in []api.Tensor, lo, hi int, want string) {
	t.Helper()
	got, err := ewise.Part(op, s, in, lo, hi)
	if w := words(got, err); w != want {
		t.Errorf("operator %d, %s, from %d to %d: %s, want %s", op, told(in), lo, hi, w, want)
	}
	if err != api.OK && !isZero(got) {
		t.Errorf("operator %d, %s, from %d to %d: beside %v: %+v", op, told(in), lo, hi, err, got)
	}
}

// P11.3: some elements, in one dim, of each type.
func TestPart(t *testing.T) {
	in := tensors("i2.1:10,20 i3:1,2,3")
	part(t, api.OpAdd, plain, in, 0, 6, "i:11,12,13,21,22,23")
	part(t, api.OpAdd, plain, in, 2, 5, "i:13,21,22")
	part(t, api.OpAdd, plain, in, 5, 6, "i:23")
	part(t, api.OpAdd, plain, in, 0, 1, "i:11")
	for at := range 7 {
		part(t, api.OpAdd, plain, in, at, at, "i:")
	}
	part(t, api.OpLess, plain, tensors("i3:1,2,3 i.:2"), 1, 3, "b:0,0")
	part(t, api.OpWhere, plain, tensors("b2.1:1,0 f2:3F800000,7F800001 f.:40000000"), 1, 3, "f:7FC00000,40000000")
	part(t, api.OpNeg, plain, tensors("f.:3F800000"), 0, 1, "f:BF800000")
	part(t, api.OpNeg, plain, tensors("f3.0:"), 0, 0, "f:")
	part(t, api.OpClip, plain, tensors("i3:1,5,9 - i.:6"), 1, 3, "i:5,6")
}

// P11.3: places that are not there.
func TestPartPlaces(t *testing.T) {
	in := tensors("i2.1:10,20 i3:1,2,3")
	for _, c := range [][2]int{{-1, 0}, {-1, -1}, {-1, 6}, {0, -1}, {0, 7}, {6, 7}, {7, 7}, {7, 6}, {1, 0}, {6, 5}, {5, 1},
		{math.MinInt, math.MinInt}, {math.MinInt, math.MaxInt}, {math.MaxInt, math.MinInt}, {math.MaxInt, math.MaxInt}, {0, math.MaxInt}, {math.MinInt, 0}, {0, 1 << 32}, {1 << 32, 1 << 32}} {
		part(t, api.OpAdd, plain, in, c[0], c[1], "ErrPlace")
	}
	part(t, api.OpNeg, plain, tensors("f3.0:"), 0, 1, "ErrPlace")
	part(t, api.OpNeg, plain, tensors("f3.0:"), 1, 1, "ErrPlace")
	part(t, api.OpNeg, plain, tensors("f.:3F800000"), 0, 2, "ErrPlace")
}

// P11.3: Do's errors, of the whole, ahead of places.
func TestPartErrors(t *testing.T) {
	for _, c := range [][2]int{{0, 0}, {0, 1}, {-1, 1}, {1, 0}, {0, 99}} {
		part(t, api.OpMatMul, plain, tensors("f:3F800000 f:3F800000"), c[0], c[1], "ErrArg")
		part(t, api.OpAdd, plain, []api.Tensor{{Type: 2}, {}}, c[0], c[1], "ErrType")
		part(t, api.OpAdd, plain, []api.Tensor{{Type: api.Int, Dims: []int{4097}}}, c[0], c[1], "ErrSize")
		part(t, api.OpAdd, plain, tensors("f:3F800000 i:1"), c[0], c[1], "ErrType")
		part(t, api.OpMod, plain, tensors("f:3F800000 f:3F800000"), c[0], c[1], "ErrAttr")
		part(t, api.OpAdd, plain, tensors("i:1,2 i:1,2,3"), c[0], c[1], "ErrShape")
		// Also where the part itself is divided by no 0.
		part(t, api.OpDiv, plain, tensors("i:1,2,3 i:1,1,0"), c[0], c[1], "ErrDivide")
		part(t, api.OpMod, fmod, tensors("i:1,2,3 i:1,1,0"), c[0], c[1], "ErrDivide")
	}
	part(t, api.OpDiv, plain, tensors("i: i:0"), 0, 0, "i:")
	part(t, api.OpDiv, plain, tensors("i: i:0"), 0, 1, "ErrPlace")
}
