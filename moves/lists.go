package moves

import (
	"lattice/api"
	"lattice/soft"
)

// joined is Concat. Of the lists that are not of the inputs' type there is nothing to join.
func (o operation) joined() api.Tensor {
	out := o.outs[0]
	rows := size(out.Dims[:o.axis()])
	return api.Tensor{
		Type: out.Type,
		Dims: out.Dims,
		F:    join(o.in, rows, func(t api.Tensor) []uint32 { return t.F }),
		I:    join(o.in, rows, func(t api.Tensor) []int64 { return t.I }),
		B:    join(o.in, rows, func(t api.Tensor) []bool { return t.B }),
	}
}

// join is a list of tensors' lists, each of which has so many rows of its own length: row by row, that of each behind that of the one ahead.
func join[E any](in []api.Tensor, rows int, list func(api.Tensor) []E) []E {
	var all []E
	for row := range rows {
		for _, t := range in {
			l := list(t)
			length := len(l) / rows
			all = append(all, l[row*length:(row+1)*length]...)
		}
	}
	return all
}

// scattered is x with z's elements at the places that y names.
func (o operation) scattered() api.Tensor {
	x, y, z := o.in[0], o.in[1], o.in[2]
	at := places(y.Dims, x.Dims, o.pickedAlong())
	lay(x.F, at, z.F, put(o.s.Mode, soft.Add, soft.Mul))
	lay(x.I, at, z.I, put(o.s.Mode, func(a, b int64) int64 { return a + b }, func(a, b int64) int64 { return a * b }))
	// Truths are laid down and nothing else: infer takes no other mode of them.
	lay(x.B, at, z.B, put[bool](api.ModeNone, nil, nil))
	return x
}

// put is what a mode makes of what stood there and what comes to it.
func put[E any](mode int, add, multiply func(old, more E) E) func(old, more E) E {
	switch mode {
	case api.ModeAdd:
		return add
	case api.ModeMul:
		return multiply
	}
	return func(_, more E) E { return more }
}

// lay puts elements into a list, one after the other: a place may be named twice.
func lay[E any](list []E, at []int, more []E, put func(old, more E) E) {
	for n, e := range more {
		list[at[n]] = put(list[at[n]], e)
	}
}
