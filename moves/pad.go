package moves

import (
	"lattice/api"
	"lattice/tens"
)

// padded is Pad. Nothing but the mode that lays z's element leads outside of x.
func (o operation) padded() api.Tensor {
	x, z, dims := o.in[0], o.input(2), o.outs[0].Dims
	ahead, _ := tens.Ints(o.in[1])
	at := places(dims, x.Dims, byDims(func(dim, at int) int {
		return inside(o.s.Mode, at-ahead[dim], x.Dims[dim])
	}))
	t := picked(x, dims, at)
	fill(t.F, at, z.F)
	fill(t.I, at, z.I)
	fill(t.B, at, z.B)
	return t
}

// inside is what stands for a place of a dim of n that may be outside.
func inside(mode, at, n int) int {
	switch {
	case mode == api.ModeEdge:
		return held(at, 0, n-1)
	case mode == api.ModeReflect && at < 0:
		return -at
	case mode == api.ModeReflect && at >= n:
		return 2*(n-1) - at
	}
	return at
}

// fill puts an element, if there is one, where nothing of x stands.
func fill[E any](list []E, at []int, one []E) {
	for n := range list {
		if at[n] == nowhere && len(one) > 0 {
			list[n] = one[0]
		}
	}
}
