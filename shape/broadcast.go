package shape

import "lattice/api"

// Broadcast is the shape that two come to.
func Broadcast(a, b []int) ([]int, api.Errno) {
	if _, err := Size(a); err != api.OK {
		return nil, err
	}
	if _, err := Size(b); err != api.OK {
		return nil, err
	}
	dims := make([]int, max(len(a), len(b)))
	for back := 1; back <= len(dims); back++ {
		x, y := fromEnd(a, back), fromEnd(b, back)
		switch {
		case x == y, y == 1:
			dims[len(dims)-back] = x
		case x == 1:
			dims[len(dims)-back] = y
		default:
			return nil, api.ErrShape
		}
	}
	// Two shapes that may be can come to one that may not.
	if _, err := Size(dims); err != api.OK {
		return nil, err
	}
	return dims, api.OK
}

// From is where an element of a shape stands in one that is broadcast to it.
func From(small, dims []int, at int) (int, api.Errno) {
	if _, err := Size(small); err != api.OK {
		return 0, err
	}
	size, err := Size(dims)
	switch {
	case err != api.OK:
		return 0, err
	case !spreads(small, dims):
		return 0, api.ErrShape
	case !within(at, size):
		return 0, api.ErrPlace
	}
	index := counted(dims, at)[len(dims)-len(small):]
	for i, d := range small {
		if d == 1 {
			index[i] = 0
		}
	}
	return place(small, index), api.OK
}

// spreads: is Broadcast of the two dims? It is asked for each element, so no shape is made for it.
func spreads(small, dims []int) bool {
	if len(small) > len(dims) {
		return false
	}
	for back := 1; back <= len(small); back++ {
		if x := fromEnd(small, back); x != 1 && x != fromEnd(dims, back) {
			return false
		}
	}
	return true
}

// fromEnd counts dims from the end, the last one by 1; a shape is as if it had dims 1 ahead of its first.
func fromEnd(dims []int, back int) int {
	if back > len(dims) {
		return 1
	}
	return dims[len(dims)-back]
}
