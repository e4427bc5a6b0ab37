package moves

import (
	"slices"

	"lattice/api"
)

// goesByNumbers: does y say which places along x's axis are meant?
func (o operation) goesByNumbers() bool {
	return o.op == api.OpGather || o.op == api.OpGatherElements || o.op == api.OpScatterElements
}

// numbersWithin: does x have all that y names?
func (o operation) numbersWithin() bool {
	n := int64(o.in[0].Dims[o.axis()])
	return !slices.ContainsFunc(o.in[1].I, func(number int64) bool { return number < -n || number >= n })
}

// number is the place along x's axis that y names at some indices.
func (o operation) number(i []int) int {
	y := o.in[1]
	return fromEnd(int(y.I[place(y.Dims, i)]), o.in[0].Dims[o.axis()])
}

// gathered has y's dims in the place of x's axis.
func (o operation) gathered() origin {
	axis := o.axis()
	behind := axis + len(o.in[1].Dims)
	return func(i []int) []int {
		return slices.Concat(i[:axis], []int{o.number(i[axis:behind])}, i[behind:])
	}
}

// pickedAlong stays where it is, but along the axis.
func (o operation) pickedAlong() origin {
	axis := o.axis()
	return func(i []int) []int {
		j := slices.Clone(i)
		j[axis] = o.number(i)
		return j
	}
}
