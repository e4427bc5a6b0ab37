package shape_test

import (
	"math"
	"testing"

	"lattice/api"
	"lattice/seeds"
	"lattice/shape"
)

// P4.5: each axis of each rank by both its numbers, and those just outside.
func TestAxis(t *testing.T) {
	for _, rank := range dims(0, 1, 2, 3, 7, 8, 9, 100) {
		for i := range rank {
			wantNumber(t, said("Axis", i, rank), i, api.OK)(shape.Axis(i, rank))
			wantNumber(t, said("Axis", i-rank, rank), i, api.OK)(shape.Axis(i-rank, rank))
		}
		for _, axis := range append(dims(-rank-1, -rank-2, rank, rank+1), outermost...) {
			wantNumber(t, said("Axis", axis, rank), 0, api.ErrPlace)(shape.Axis(axis, rank))
		}
	}
}

// P4.5: ranks that are none, and the greatest ones.
func TestAxisOfOutermost(t *testing.T) {
	for _, rank := range dims(-1, -2, -8, math.MinInt+1, math.MinInt) {
		for _, axis := range append(dims(-9, -2, -1, 0, 1, 2), outermost...) {
			wantNumber(t, said("Axis", axis, rank), 0, api.ErrPlace)(shape.Axis(axis, rank))
		}
	}
	const most = math.MaxInt
	for _, c := range []struct{ axis, want int }{{0, 0}, {most - 1, most - 1}, {-1, most - 1}, {-most, 0}} {
		wantNumber(t, said("Axis", c.axis, most), c.want, api.OK)(shape.Axis(c.axis, most))
	}
	wantNumber(t, "Axis(most, most)", 0, api.ErrPlace)(shape.Axis(most, most))
	wantNumber(t, "Axis(least, most)", 0, api.ErrPlace)(shape.Axis(math.MinInt, most))
}

// wantAxes is P4.5 with the errors one behind the other.
func wantAxes(axes []int, rank int) ([]bool, api.Errno) {
	if rank < 0 || rank > 8 {
		return nil, api.ErrArg
	}
	count := make([]int, rank)
	for _, a := range axes {
		if a < -rank || a >= rank {
			return nil, api.ErrPlace
		}
		count[(a+rank)%rank]++
	}
	named := make([]bool, rank)
	for i, n := range count {
		if n > 1 {
			return nil, api.ErrArg
		}
		named[i] = n == 1
	}
	return named, api.OK
}

// P4.5: some lists by hand.
func TestAxes(t *testing.T) {
	yes, no := true, false
	for _, c := range []struct {
		axes []int
		rank int
		want []bool
		err  api.Errno
	}{
		{nil, 0, nil, api.OK}, {dims(), 3, []bool{no, no, no}, api.OK}, {dims(0), 1, []bool{yes}, api.OK}, {dims(-1), 1, []bool{yes}, api.OK}, {dims(2, 0), 3, []bool{yes, no, yes}, api.OK},
		{nil, 8, make([]bool, 8), api.OK}, {dims(7, -8), 8, []bool{yes, no, no, no, no, no, no, yes}, api.OK}, {dims(0, 1, 2, 3, -1, -2, -3, -4), 8, []bool{yes, yes, yes, yes, yes, yes, yes, yes}, api.OK},
		{nil, -1, nil, api.ErrArg}, {nil, 9, nil, api.ErrArg}, {nil, math.MaxInt, nil, api.ErrArg}, {nil, math.MinInt, nil, api.ErrArg}, {dims(0), 9, nil, api.ErrArg}, {dims(0), -1, nil, api.ErrArg},
		// The rank comes ahead of an axis that is none.
		{dims(9), 9, nil, api.ErrArg}, {dims(-5), -1, nil, api.ErrArg},
		{dims(0), 0, nil, api.ErrPlace}, {dims(-1), 0, nil, api.ErrPlace}, {dims(3), 3, nil, api.ErrPlace}, {dims(-4), 3, nil, api.ErrPlace}, {dims(0, 8), 8, nil, api.ErrPlace}, {dims(-9, 0), 8, nil, api.ErrPlace}, {outermost, 3, nil, api.ErrPlace},
		{dims(1, 1), 3, nil, api.ErrArg}, {dims(0, -3), 3, nil, api.ErrArg}, {dims(-1, 0, 2), 3, nil, api.ErrArg}, {dims(0, 0), 1, nil, api.ErrArg}, {times(100000, 0), 1, nil, api.ErrArg},
		// An axis that is none comes ahead of one that is named twice, wherever it stands.
		{dims(1, 1, 3), 3, nil, api.ErrPlace}, {dims(1, 3, 1), 3, nil, api.ErrPlace}, {dims(3, 1, 1), 3, nil, api.ErrPlace}, {dims(1, -2, -4), 3, nil, api.ErrPlace}, {with(times(100000, 0), 1), 1, nil, api.ErrPlace},
	} {
		wantNamed(t, said("Axes", c.axes[:min(10, len(c.axes))], c.rank), c.want, c.err)(shape.Axes(c.axes, c.rank))
	}
}

// P4.5: all short lists of axes, of all ranks up to 3, and any lists.
func TestAxesLists(t *testing.T) {
	check := func(axes []int, rank int) {
		want, err := wantAxes(axes, rank)
		wantNamed(t, said("Axes", axes, rank), want, err)(shape.Axes(axes, rank))
	}
	for _, list := range shapes(4, 8) {
		axes := make([]int, len(list))
		for i, n := range list {
			axes[i] = n - 4
		}
		for rank := range 4 {
			check(axes, rank)
		}
	}
	s := seeds.Seed(3)
	for range 50000 {
		axes := anyList(&s)
		for i := range axes {
			if s.Below(3) == 0 {
				axes[i] = -axes[i]
			}
		}
		check(axes, s.Below(13)-2)
	}
}
