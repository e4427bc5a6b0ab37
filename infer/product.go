package infer

import (
	"slices"

	"lattice/api"
	"lattice/shape"
)

// multiplied is the shape of a MatMul.
func (o operation) multiplied() ([]int, api.Errno) {
	x, y := o.dims(0), o.dims(1)
	if len(x) == 0 || len(y) == 0 {
		return nil, api.ErrShape
	}
	// One of rank 1 has no lines on the left, no columns on the right: these are none of the output's dims then.
	manyX, manyY := x[:max(len(x)-2, 0)], y[:max(len(y)-2, 0)]
	lines, columns := x[len(manyX):len(x)-1], y[len(manyY)+1:]
	if x[len(x)-1] != y[len(manyY)] {
		return nil, api.ErrShape
	}
	many, err := shape.Broadcast(manyX, manyY)
	if err != api.OK {
		return nil, err
	}
	return slices.Concat(many, lines, columns), api.OK
}

// gemm is the shape of a Gemm.
func (o operation) gemm() ([]int, api.Errno) {
	x, y := turned(o.dims(0), o.s.TransA), turned(o.dims(1), o.s.TransB)
	if len(x) != 2 || len(y) != 2 || x[1] != y[0] {
		return nil, api.ErrShape
	}
	dims := []int{x[0], y[1]}
	// Nothing goes into a shape that may not be: that is the row's own error, ahead of the output's.
	return fits(!o.has(2) || goesInto(o.dims(2), dims), dims)
}

// turned are a matrix's dims, the other way round if it is asked for.
func turned(dims []int, is bool) []int {
	dims = copied(dims)
	if is {
		slices.Reverse(dims)
	}
	return dims
}
