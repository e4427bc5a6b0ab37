package tens_test

import (
	"testing"

	"lattice/api"
	"lattice/tens"
)

// P5.1: tensors that may be.
func TestCheckTakes(t *testing.T) {
	for _, k := range kinds {
		for _, dims := range shapes() {
			x := filled(k.kind, dims)
			if err := tens.Check(x); err != api.OK {
				t.Errorf("%s: %v", short(x), err)
			}
			// Lists without elements may be nil or not.
			x = joined(x, api.Tensor{F: []uint32{}, I: []int64{}, B: []bool{}})
			if x.F == nil {
				x.F = []uint32{}
			}
			if x.I == nil {
				x.I = []int64{}
			}
			if x.B == nil {
				x.B = []bool{}
			}
			if err := tens.Check(x); err != api.OK {
				t.Errorf("%s, no list nil: %v", short(x), err)
			}
		}
	}
}

// P5.1: tensors that may not be; a type that is none comes ahead of a shape that may not be, that ahead of a list that does not fit.
func TestCheckRefuses(t *testing.T) {
	for _, c := range refusedTensors() {
		if err := tens.Check(c.t); err != c.err {
			t.Errorf("%s: %v, want %v", short(c.t), err, c.err)
		}
	}
	if err := tens.Check(api.Tensor{}); err != api.ErrType {
		t.Error("the empty one:", err)
	}
}

// P5.1: New's elements are all 0, the nought above 0, or false.
func TestNew(t *testing.T) {
	for _, k := range kinds {
		for _, dims := range shapes() {
			want := api.Tensor{Type: k.kind, Dims: dims}
			switch n := product(dims); k.kind {
			case api.Float:
				want.F = make([]uint32, n)
			case api.Int:
				want.I = make([]int64, n)
			case api.Bool:
				want.B = make([]bool, n)
			}
			wantTensor(t, said("New ", k.kind, dims), want, api.OK)(tens.New(k.kind, dims))
		}
	}
}

// P5.1: New tells a type that is none ahead of a shape that may not be.
func TestNewRefuses(t *testing.T) {
	for _, s := range refusedShapes() {
		for _, k := range kinds {
			wantTensor(t, said("New ", k.kind, s.dims), api.Tensor{}, s.err)(tens.New(k.kind, s.dims))
		}
		for _, kind := range noKinds {
			wantTensor(t, said("New ", kind, s.dims), api.Tensor{}, api.ErrType)(tens.New(kind, s.dims))
		}
	}
	for _, dims := range shapes() {
		for _, kind := range noKinds {
			wantTensor(t, said("New ", kind, dims), api.Tensor{}, api.ErrType)(tens.New(kind, dims))
		}
	}
}
