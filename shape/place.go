package shape

import "lattice/api"

// Index is the indices of an offset.
func Index(dims []int, at int) ([]int, api.Errno) {
	size, err := Size(dims)
	switch {
	case err != api.OK:
		return nil, err
	case !within(at, size):
		return nil, api.ErrPlace
	}
	return counted(dims, at), api.OK
}

// Offset is the place of indices.
func Offset(dims, index []int) (int, api.Errno) {
	if _, err := Size(dims); err != api.OK {
		return 0, err
	}
	if len(index) != len(dims) {
		return 0, api.ErrPlace
	}
	for i, d := range dims {
		if !within(index[i], d) {
			return 0, api.ErrPlace
		}
	}
	return place(dims, index), api.OK
}

// counted is the indices of a place that is known to be there: those of the first element, counted on.
func counted(dims []int, places int) []int {
	index := make([]int, len(dims))
carry:
	for i := len(dims) - 1; i >= 0; i-- {
		switch {
		case places < dims[i]:
			index[i] = places
			break carry
		default:
			// Each time an index goes round, the one ahead of it goes on by one.
			index[i], places = places%dims[i], places/dims[i]
		}
	}
	return index
}

// place is the offset of indices that are known to fit.
func place(dims, index []int) int {
	at := 0
	for i, d := range dims {
		at = at*d + index[i]
	}
	return at
}

// within: is it 0 to n - 1?
func within(at, n int) bool { return at >= 0 && at < n }
