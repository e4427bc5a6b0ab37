package moves

import (
	"lattice/api"
	"lattice/shape"
	"lattice/tens"
)

// nowhere is the place of what is none of x's elements, as tens.Pick takes it.
const nowhere = -1

// origin tells, by the indices of an element of the output, those that it has in x.
type origin func(i []int) []int

// places are, for each element of a shape, where in another one it stands.
func places(dims, from []int, tell origin) []int {
	list := make([]int, size(dims))
	i := make([]int, len(dims))
count:
	for n := range list {
		list[n] = place(from, tell(i))
		for k := len(dims) - 1; k >= 0; k-- {
			i[k]++
			if i[k] < dims[k] {
				continue count
			}
			// It goes round, and so the one ahead of it goes on.
			i[k] = 0
		}
	}
	return list
}

// place is the offset of indices, or nowhere, if a shape has none such.
func place(dims, i []int) int {
	at, err := shape.Offset(dims, i)
	if err != api.OK {
		return nowhere
	}
	return at
}

// picked is a tensor of x's elements at places, which are known to fit.
func picked(x api.Tensor, dims, at []int) api.Tensor {
	t, _ := tens.Pick(x, dims, at)
	return t
}

// expanded is x in a shape that it goes into.
func expanded(x api.Tensor, dims []int) api.Tensor {
	at := make([]int, size(dims))
	for n := range at {
		at[n], _ = shape.From(x.Dims, dims, n)
	}
	return picked(x, dims, at)
}

// size is how many elements there are of a shape that may be.
func size(dims []int) int {
	n, _ := shape.Size(dims)
	return n
}

// axis is the setting's, which infer has taken.
func (o operation) axis() int {
	at, _ := shape.Axis(o.s.Axis, len(o.in[0].Dims))
	return at
}
