package tens

import (
	"lattice/api"
	"lattice/shape"
)

// Pick is a tensor of elements of another one.
func Pick(t api.Tensor, dims, at []int) (api.Tensor, api.Errno) {
	if err := Check(t); err != api.OK {
		return api.Tensor{}, err
	}
	size, err := shape.Size(dims)
	switch {
	case err != api.OK:
		return api.Tensor{}, err
	case len(at) != size:
		return api.Tensor{}, api.ErrShape
	case !within(at, len(t.F)+len(t.I)+len(t.B)):
		return api.Tensor{}, api.ErrPlace
	}
	p := api.Tensor{Type: t.Type, Dims: copied(dims)}
	switch t.Type {
	case api.Float:
		p.F = picked(t.F, at)
	case api.Int:
		p.I = picked(t.I, at)
	case api.Bool:
		p.B = picked(t.B, at)
	}
	return p, api.OK
}

// Ints are the elements of a list of whole numbers.
func Ints(t api.Tensor) ([]int, api.Errno) {
	err := Check(t)
	switch {
	case err != api.OK:
		return nil, err
	case t.Type != api.Int:
		return nil, api.ErrType
	case len(t.Dims) >= 2:
		return nil, api.ErrShape
	}
	ints := make([]int, len(t.I))
	for i, n := range t.I {
		ints[i] = int(n)
	}
	return ints, api.OK
}

// within: is each place one of so many elements, or the -1 that stands for none?
func within(at []int, size int) bool {
	for _, a := range at {
		if a < -1 || a >= size {
			return false
		}
	}
	return true
}

// picked are the elements at places that are known to be there; at -1 stands the list's own nought.
func picked[E any](list []E, at []int) []E {
	out := make([]E, len(at))
	for i, a := range at {
		if a >= 0 {
			out[i] = list[a]
		}
	}
	return out
}
