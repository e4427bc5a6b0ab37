package moves

import (
	"slices"

	"lattice/api"
)

// origin is where the elements of an output come from.
func (o operation) origin(out int) origin {
	d := o.in[0].Dims
	switch o.op {
	case api.OpTranspose:
		return transposed(o.order())
	case api.OpSplit:
		return o.split(out)
	case api.OpSlice:
		return o.sliced()
	case api.OpGather:
		return o.gathered()
	case api.OpGatherElements:
		return o.pickedAlong()
	case api.OpTile:
		return byDims(func(dim, at int) int { return at % d[dim] })
	case api.OpDepthToSpace:
		return spread(o.s, o.outs[out].Dims[1])
	}
	return stacked(o.s.Block, d[1])
}

// byDims goes dim by dim, whatever the other indices are.
func byDims(tell func(dim, at int) int) origin {
	return func(i []int) []int {
		j := make([]int, len(i))
		for dim, at := range i {
			j[dim] = tell(dim, at)
		}
		return j
	}
}

// order is Perm, or that of all dims turned round.
func (o operation) order() []int {
	if o.s.HasPerm {
		return o.s.Perm
	}
	var perm []int
	for k := len(o.in[0].Dims) - 1; k >= 0; k-- {
		perm = append(perm, k)
	}
	return perm
}

func transposed(perm []int) origin {
	return func(i []int) []int {
		j := make([]int, len(i))
		for k, p := range perm {
			j[p] = i[k]
		}
		return j
	}
}

// split goes on behind the outputs ahead.
func (o operation) split(out int) origin {
	axis, ahead := o.axis(), 0
	for _, v := range o.outs[:out] {
		ahead += v.Dims[axis]
	}
	return func(i []int) []int {
		j := slices.Clone(i)
		j[axis] += ahead
		return j
	}
}

// spread is DepthToSpace, of an output with that second dim.
func spread(s api.Setting, depth int) origin {
	b := s.Block
	return func(i []int) []int {
		inside := i[2]%b*b + i[3]%b
		from := inside*depth + i[1]
		if s.Mode == api.ModeCRD {
			from = i[1]*b*b + inside
		}
		return []int{i[0], from, i[2] / b, i[3] / b}
	}
}

// stacked is SpaceToDepth, of an x with that second dim.
func stacked(b, depth int) origin {
	return func(i []int) []int {
		inside := i[1] / depth
		return []int{i[0], i[1] % depth, i[2]*b + inside/b, i[3]*b + inside%b}
	}
}
