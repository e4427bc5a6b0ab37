package shape

import "lattice/api"

// Axis is an axis counted from the front.
func Axis(axis, rank int) (int, api.Errno) {
	switch {
	case rank < 0, axis < -rank, axis >= rank:
		return 0, api.ErrPlace
	case axis < 0:
		return rank + axis, api.OK
	}
	return axis, api.OK
}

// Axes tells which dims are among some axes.
func Axes(axes []int, rank int) ([]bool, api.Errno) {
	if rank < 0 || rank > api.MaxDims {
		return nil, api.ErrArg
	}
	named := make([]bool, rank)
	twice := false
	for _, a := range axes {
		i, err := Axis(a, rank)
		if err != api.OK {
			return nil, err
		}
		// Told only in the end: an axis behind this one that is none comes first.
		twice = twice || named[i]
		named[i] = true
	}
	if twice {
		return nil, api.ErrArg
	}
	return named, api.OK
}
