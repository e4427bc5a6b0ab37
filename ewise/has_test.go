package ewise_test

import (
	"math"
	"reflect"
	"testing"

	"lattice/api"
	"lattice/ewise"
)

// P11.1: the operators from Abs to Cast, and no others.
func TestHas(t *testing.T) {
	for op := -100; op <= 200; op++ {
		if got := ewise.Has(op); got != (op >= 1 && op <= 44) {
			t.Errorf("Has(%d): %t", op, got)
		}
	}
	for _, op := range []int{math.MinInt, math.MinInt + 1, -1 << 32, 1<<32 + 1, math.MaxInt} {
		if ewise.Has(op) {
			t.Errorf("Has(%d)", op)
		}
	}
	if !ewise.Has(api.OpAbs) || !ewise.Has(api.OpCast) || ewise.Has(api.OpTranspose) || ewise.Has(api.OpNone) {
		t.Error("Has does not begin with Abs, or does not end with Cast")
	}
}

// P11.1: of each tensor that is there a constant of its type and dims, bit for bit; of one that is left out nothing.
func TestVals(t *testing.T) {
	junk := api.Tensor{Dims: []int{-1, 9}, F: []uint32{1}, I: []int64{2}, B: []bool{true}}
	in := append(tensors("f2.1:7F800001,80000000 - i.:5 b:1,0"), junk, api.Tensor{Type: -3, Dims: []int{-1}, F: []uint32{1}, B: []bool{true}}, api.Tensor{Type: api.Float, Dims: []int{5000}})
	vals := ewise.Vals(in)
	if len(vals) != len(in) {
		t.Fatalf("%d values of %d tensors", len(vals), len(in))
	}
	for i, v := range vals {
		if in[i].Type == api.None {
			if !reflect.ValueOf(v).IsZero() {
				t.Errorf("what is left out is %+v", v)
			}
			continue
		}
		if !alike(api.Tensor{Type: v.Type, Dims: v.Dims}, api.Tensor{Type: in[i].Type, Dims: in[i].Dims}) || !v.Const || !alike(v.T, in[i]) {
			t.Errorf("%s is %+v", told(in[i:]), v)
		}
	}
	if got := ewise.Vals(nil); len(got) != 0 {
		t.Errorf("of no tensors: %+v", got)
	}
}
