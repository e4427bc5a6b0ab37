package infer

import (
	"slices"

	"lattice/api"
	"lattice/shape"
)

// sliced is the shape of a Slice.
func (o operation) sliced() ([]int, api.Errno) {
	starts, ends := o.told[1], o.told[2]
	axes, steps := o.axesOfSlice(len(starts)), o.stepsOfSlice(len(starts))
	if len(ends) != len(starts) || len(axes) != len(starts) || len(steps) != len(starts) || slices.Contains(steps, 0) {
		return nil, api.ErrShape
	}
	dims := copied(o.dims(0))
	if _, err := shape.Axes(axes, len(dims)); err != api.OK {
		return nil, api.ErrShape
	}
	for i, axis := range axes {
		at := fromEnd(axis, len(dims))
		dims[at] = places(dims[at], starts[i], ends[i], steps[i])
	}
	return dims, api.OK
}

func (o operation) axesOfSlice(n int) []int {
	if o.has(3) {
		return o.told[3]
	}
	var axes []int
	for i := range n {
		axes = append(axes, i)
	}
	return axes
}

func (o operation) stepsOfSlice(n int) []int {
	if o.has(4) {
		return o.told[4]
	}
	return slices.Repeat([]int{1}, n)
}

// places is how many there are from the start on, step by step, ahead of the end.
func places(n, start, end, step int) int {
	low, high := 0, n
	if step < 0 {
		low, high = -1, n-1
	}
	// Held ahead of all else: the numbers may be so great that they would come round.
	way := held(fromEnd(end, n), low, high) - held(fromEnd(start, n), low, high)
	switch {
	case step > 0 && way > 0:
		return (way-1)/step + 1
	case step < 0 && way < 0:
		return (way+1)/step + 1
	}
	return 0
}
