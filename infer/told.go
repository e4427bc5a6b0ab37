package infer

import (
	"slices"

	"lattice/api"
	"lattice/tens"
)

// toldPlaces are the places of the told lists that are there.
func (o operation) toldPlaces() []int {
	from, to := 0, 0
	switch o.op {
	case api.OpConstantOfShape:
		to = 1
	case api.OpReshape, api.OpSplit, api.OpPad, api.OpTile, api.OpExpand, api.OpSqueeze, api.OpUnsqueeze, api.OpReduceSum:
		from, to = 1, 2
	case api.OpSlice:
		from, to = 1, 5
	}
	var places []int
	for i := from; i < to; i++ {
		if o.has(i) {
			places = append(places, i)
		}
	}
	return places
}

// toldLists are what the told lists say, each at the place of its input; nothing stands at the others.
func (o operation) toldLists() ([][]int, api.Errno) {
	lists := make([][]int, len(o.in))
	places := o.toldPlaces()
	for _, i := range places {
		if !isConstant(o.in[i]) {
			return nil, api.ErrConst
		}
	}
	// Of what is constant, one of some other rank is told ahead of all numbers.
	for _, i := range places {
		if len(o.in[i].Dims) != 1 {
			return nil, api.ErrShape
		}
	}
	for _, i := range places {
		// It is refused by nothing more: type, tensor and rank were asked above.
		lists[i], _ = tens.Ints(o.in[i].T)
		// A slice may begin and end far behind all that is there.
		if o.op != api.OpSlice && slices.ContainsFunc(lists[i], isTooMuch) {
			return nil, api.ErrSize
		}
	}
	return lists, api.OK
}

// isConstant: does a value have a tensor that may be, and is what the value says?
func isConstant(v api.Val) bool { return v.Const && isOf(v.T, v) }

// isOf: is a tensor one that may be, of a value's type and dims?
func isOf(t api.Tensor, v api.Val) bool {
	return tens.Check(t) == api.OK && t.Type == v.Type && slices.Equal(t.Dims, v.Dims)
}

func isTooMuch(n int) bool { return n > api.MaxElems }

func isBelow0(n int) bool { return n < 0 }
