package shape_test

import (
	"fmt"
	"math"
	"slices"
	"testing"

	"lattice/api"
	"lattice/seeds"
)

// This file holds what the tests try, and how they hold an answer against what is asked.

// outermost are numbers that no shape, place or axis has.
var outermost = []int{math.MinInt, math.MinInt + 1, math.MaxInt - 1, math.MaxInt}

// wantNumber asks an answer of one number; beside an error it is 0.
func wantNumber(t *testing.T, call string, want int, wantErr api.Errno) func(int, api.Errno) {
	return func(got int, err api.Errno) {
		t.Helper()
		if got != want || err != wantErr {
			t.Errorf("%s: %d, %v; want %d, %v", call, got, err, want, wantErr)
		}
	}
}

// wantList asks an answer of a list; beside an error it has no elements.
func wantList(t *testing.T, call string, want []int, wantErr api.Errno) func([]int, api.Errno) {
	return wantSame(t, call, want, wantErr)
}

// wantNamed asks an answer of bools; beside an error there are none.
func wantNamed(t *testing.T, call string, want []bool, wantErr api.Errno) func([]bool, api.Errno) {
	return wantSame(t, call, want, wantErr)
}

func wantSame[T comparable](t *testing.T, call string, want []T, wantErr api.Errno) func([]T, api.Errno) {
	return func(got []T, err api.Errno) {
		t.Helper()
		if !slices.Equal(got, want) || err != wantErr {
			t.Errorf("%s: %v, %v; want %v, %v", call, got, err, want, wantErr)
		}
	}
}

// said is a call with its arguments, for what a test tells.
func said(name string, args ...any) string { return name + fmt.Sprint(args...) }

// times is a shape of n dims d.
func times(n, d int) []int { return slices.Repeat([]int{d}, n) }

// with is a list with one number behind the others.
func with(list []int, last int) []int { return append(slices.Clone(list), last) }

// shapes are all shapes of at most rank dims, each 0 to most.
func shapes(rank, most int) [][]int {
	all := [][]int{{}}
	for from, n := 0, 0; n < rank; n++ {
		end := len(all)
		for _, s := range all[from:end] {
			for d := range most + 1 {
				all = append(all, with(s, d))
			}
		}
		from = end
	}
	return all
}

// edges are shapes that just may be, or are strange to look at.
func edges() [][]int {
	return [][]int{
		nil, {0}, {1}, {4096}, {1, 4096}, {4096, 1}, {64, 64}, {2, 2048}, {4095}, {15, 273}, {63, 65},
		times(8, 1), times(8, 0), times(8, 2), {2, 2, 2, 2, 2, 2, 2, 32}, {32, 2, 2, 2, 2, 2, 2, 2}, {1, 4096, 1, 1, 1, 1, 1, 1},
		{0, 4096}, {4096, 0}, {4096, 4096, 0}, {0, 4096, 4096}, with(times(7, 4096), 0), {0, 4096, 4096, 4096, 4096, 4096, 4096, 4096}, {4096, 4096, 4096, 0, 4096, 4096, 4096, 4096},
	}
}

// refused are shapes that may not be, with Size's error.
func refused() []struct {
	dims []int
	err  api.Errno
} {
	type row = struct {
		dims []int
		err  api.Errno
	}
	rows := []row{
		{dims(-1), api.ErrArg}, {dims(2, -1), api.ErrArg}, {dims(-1, 2), api.ErrArg}, {dims(0, -1), api.ErrArg}, {dims(-1, 0), api.ErrArg}, {dims(-2, -3), api.ErrArg},
		{dims(4097), api.ErrSize}, {dims(0, 4097), api.ErrSize}, {dims(4097, 0), api.ErrSize}, {dims(1, 4097), api.ErrSize}, {dims(2, 2049), api.ErrSize}, {dims(64, 65), api.ErrSize},
		{dims(4096, 2), api.ErrSize}, {dims(17, 241), api.ErrSize}, {dims(1, 241, 1, 17), api.ErrSize}, {times(7, 4), api.ErrSize},
		{times(9, 1), api.ErrSize}, {times(9, 0), api.ErrSize}, {times(100000, 1), api.ErrSize},
		// Products that would come round to 0 and to numbers that may be.
		{times(8, 4096), api.ErrSize}, {times(8, 256), api.ErrSize}, {times(6, 2048), api.ErrSize}, {times(8, 4095), api.ErrSize}, {times(8, 3840), api.ErrSize},
		{dims(1<<32, 1<<32), api.ErrSize}, {dims(math.MaxInt, math.MaxInt), api.ErrSize}, {dims(math.MaxInt, 0), api.ErrSize},
		// A dim below 0 comes ahead of all that is too much.
		{dims(4097, -1), api.ErrArg}, {dims(-1, 4097), api.ErrArg}, {dims(64, 65, -1), api.ErrArg}, {with(times(8, 1), -1), api.ErrArg}, {with(times(100000, 1), -1), api.ErrArg}, {with(times(8, 4096), -1), api.ErrArg}, {dims(math.MinInt, math.MaxInt), api.ErrArg},
	}
	for _, n := range outermost {
		if n < 0 {
			rows = append(rows, row{dims(n), api.ErrArg})
		} else {
			rows = append(rows, row{dims(n), api.ErrSize})
		}
	}
	return rows
}

// anyNumber is mostly one that may be a dim, a place or an axis, or is near one.
func anyNumber(s *seeds.Seed) int {
	switch s.Below(8) {
	case 0:
		return outermost[s.Below(len(outermost))]
	case 1:
		return int(s.Next())
	case 2:
		return 4094 + s.Below(5)
	case 3:
		return s.Below(20) - 10
	}
	return s.Below(5)
}

// anyList is a list of such, mostly a short one.
func anyList(s *seeds.Seed) []int {
	n := s.Below(4)
	switch s.Below(8) {
	case 0:
		n = s.Below(12)
	case 1:
		return nil
	}
	list := make([]int, n)
	for i := range list {
		list[i] = s.Below(4)
		if s.Below(6) == 0 {
			list[i] = anyNumber(s)
		}
	}
	return list
}

// visit tells the indices of all elements of a shape in row order.
func visit(dims []int, tell func(index []int)) {
	if slices.Contains(dims, 0) {
		// Much may stand ahead of the 0.
		return
	}
	var step func(index []int)
	step = func(index []int) {
		if len(index) == len(dims) {
			tell(index)
			return
		}
		for i := range dims[len(index)] {
			step(with(index, i))
		}
	}
	step(nil)
}
