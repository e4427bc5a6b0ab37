package shape_test

import (
	"slices"
	"testing"

	"lattice/api"
	"lattice/seeds"
	"lattice/shape"
)

// laid is a shape with dims 1 ahead of it, as many as make it rank dims.
func laid(dims []int, rank int) []int { return append(times(rank-len(dims), 1), dims...) }

// wantBroadcast is P4.3 with both shapes written out to one rank.
func wantBroadcast(a, b []int) ([]int, api.Errno) {
	for _, dims := range [][]int{a, b} {
		if _, err := wantSize(dims); err != api.OK {
			return nil, err
		}
	}
	rank := max(len(a), len(b))
	a, b = laid(a, rank), laid(b, rank)
	all := make([]int, rank)
	for i := range all {
		if a[i] != b[i] && a[i] != 1 && b[i] != 1 {
			return nil, api.ErrShape
		}
		all[i] = b[i]
		if b[i] == 1 {
			all[i] = a[i]
		}
	}
	if _, err := wantSize(all); err != api.OK {
		return nil, err
	}
	return all, api.OK
}

// wantFrom is P4.4 for all elements of dims at one time: the elements of small, counted, stand wherever the indices of dims lead to.
func wantFrom(small, dims []int) []int {
	number := map[string]int{}
	visit(laid(small, len(dims)), func(index []int) { number[said("", index)] = len(number) })
	var all []int
	visit(dims, func(index []int) {
		in := slices.Clone(index)
		for i, d := range laid(small, len(dims)) {
			in[i] = min(in[i], d-1)
		}
		all = append(all, number[said("", in)])
	})
	return all
}

// P4.3: pairs that go together, that do not, and that come to more than may be.
func TestBroadcast(t *testing.T) {
	for _, c := range []struct {
		a, b, want []int
		err        api.Errno
	}{
		{nil, nil, nil, api.OK}, {dims(), dims(1), dims(1), api.OK}, {dims(1), dims(1), dims(1), api.OK}, {dims(0), dims(0), dims(0), api.OK}, {dims(), dims(0), dims(0), api.OK},
		{dims(1, 1), dims(1), dims(1, 1), api.OK}, {dims(2, 3), dims(3), dims(2, 3), api.OK}, {dims(2, 1), dims(1, 3), dims(2, 3), api.OK}, {dims(2, 1, 0), dims(3, 1), dims(2, 3, 0), api.OK},
		{dims(), times(8, 1), times(8, 1), api.OK}, {dims(4096), times(8, 1), dims(1, 1, 1, 1, 1, 1, 1, 4096), api.OK}, {dims(64, 1), dims(64), dims(64, 64), api.OK},
		{dims(0), dims(2), nil, api.ErrShape}, {dims(2, 3), dims(2), nil, api.ErrShape}, {dims(2, 3), dims(3, 2), nil, api.ErrShape}, {dims(2, 1), dims(3, 1), nil, api.ErrShape}, {dims(4096), dims(4095), nil, api.ErrShape},
		{dims(4096, 1), dims(2), nil, api.ErrSize}, {dims(64, 1), dims(65), nil, api.ErrSize}, {dims(4096), dims(2, 1), nil, api.ErrSize}, {dims(1, 4096, 1), dims(4096, 1, 1), nil, api.ErrSize},
		// A 0 makes the product 0, whatever else is there.
		{dims(4096, 1), dims(0), dims(4096, 0), api.OK}, {dims(4096, 1, 1), dims(4096, 0), dims(4096, 4096, 0), api.OK},
		// What does not go together comes ahead of what is too much, wherever it stands.
		{dims(2, 64, 1), dims(3, 1, 65), nil, api.ErrShape}, {dims(64, 1, 2), dims(1, 65, 3), nil, api.ErrShape},
	} {
		wantList(t, said("Broadcast", c.a, c.b), c.want, c.err)(shape.Broadcast(c.a, c.b))
		wantList(t, said("Broadcast", c.b, c.a), c.want, c.err)(shape.Broadcast(c.b, c.a))
	}
}

// P4.3: all pairs of small shapes, and pairs of any lists.
func TestBroadcastPairs(t *testing.T) {
	check := func(a, b []int) {
		want, err := wantBroadcast(a, b)
		wantList(t, said("Broadcast", a, b), want, err)(shape.Broadcast(a, b))
	}
	all := append(shapes(3, 3), edges()...)
	for _, a := range all {
		for _, b := range all {
			check(a, b)
		}
	}
	s := seeds.Seed(2)
	for range 50000 {
		check(anyList(&s), anyList(&s))
	}
}

// P4.3 and P4.4: Size's error of the first shape, then of the second, ahead of all others.
func TestSizeFirstOfTwo(t *testing.T) {
	for _, c := range refused() {
		call := said(" with ", c.dims[:min(10, len(c.dims))])
		for _, good := range [][]int{nil, dims(2), dims(0), dims(4096), times(8, 1)} {
			wantList(t, said("Broadcast", good, call), nil, c.err)(shape.Broadcast(good, c.dims))
			wantList(t, said("Broadcast, first", good, call), nil, c.err)(shape.Broadcast(c.dims, good))
			for _, at := range append(dims(-1, 0), outermost...) {
				wantNumber(t, said("From", good, at, call), 0, c.err)(shape.From(good, c.dims, at))
				wantNumber(t, said("From, first", good, at, call), 0, c.err)(shape.From(c.dims, good, at))
			}
		}
	}
	below, most := dims(2, -1), dims(64, 65)
	wantList(t, "Broadcast, below first", nil, api.ErrArg)(shape.Broadcast(below, most))
	wantList(t, "Broadcast, most first", nil, api.ErrSize)(shape.Broadcast(most, below))
	wantNumber(t, "From, below first", 0, api.ErrArg)(shape.From(below, most, 0))
	wantNumber(t, "From, most first", 0, api.ErrSize)(shape.From(most, below, 0))
}

// P4.4: some elements by hand.
func TestFrom(t *testing.T) {
	for _, c := range []struct {
		small, dims []int
		at, want    int
		err         api.Errno
	}{
		{nil, nil, 0, 0, api.OK}, {dims(), dims(5), 4, 0, api.OK}, {dims(1), dims(5), 4, 0, api.OK}, {dims(5), dims(5), 4, 4, api.OK}, {dims(5), dims(2, 5), 9, 4, api.OK}, {dims(2, 1), dims(2, 5), 9, 1, api.OK},
		{dims(1, 5), dims(2, 5), 6, 1, api.OK}, {dims(2, 1, 4), dims(2, 3, 4), 23, 7, api.OK}, {dims(2, 1, 4), dims(2, 3, 4), 9, 1, api.OK}, {dims(4096), dims(4096), 4095, 4095, api.OK}, {dims(), dims(4096), 4095, 0, api.OK},
		{dims(64), dims(64, 64), 4095, 63, api.OK}, {dims(64, 1), dims(64, 64), 4031, 62, api.OK}, {dims(), times(8, 1), 0, 0, api.OK}, {times(8, 1), times(8, 2), 255, 0, api.OK}, {times(8, 2), times(8, 2), 254, 254, api.OK},
		{nil, nil, 1, 0, api.ErrPlace}, {nil, nil, -1, 0, api.ErrPlace}, {dims(1), dims(5), 5, 0, api.ErrPlace}, {dims(1), dims(5), -1, 0, api.ErrPlace}, {dims(64), dims(64, 64), 4096, 0, api.ErrPlace},
		{dims(0), dims(0), 0, 0, api.ErrPlace}, {dims(1), dims(0), 0, 0, api.ErrPlace}, {dims(), dims(0), 0, 0, api.ErrPlace}, {dims(), dims(0), -1, 0, api.ErrPlace}, {dims(4096, 4096, 0), dims(4096, 4096, 0), 0, 0, api.ErrPlace},
		// They go together, but come to another shape than dims.
		{dims(5), dims(1), 0, 0, api.ErrShape}, {dims(5), dims(), 0, 0, api.ErrShape}, {dims(0), dims(1), 0, 0, api.ErrShape}, {dims(1), dims(), 0, 0, api.ErrShape}, {dims(1, 5), dims(5), 0, 0, api.ErrShape}, {dims(1, 1), dims(1), 0, 0, api.ErrShape}, {dims(2, 1), dims(3), 0, 0, api.ErrShape},
		// They do not go together, or come to more than may be: ahead of the place.
		{dims(0), dims(2), 0, 0, api.ErrShape}, {dims(2), dims(2, 3), 0, 0, api.ErrShape}, {dims(3, 2), dims(2, 3), 9, 0, api.ErrShape}, {dims(64, 1), dims(65), 0, 0, api.ErrShape}, {dims(65, 1), dims(64), -1, 0, api.ErrShape}, {dims(4096, 1), dims(1, 4096), 4096, 0, api.ErrShape},
	} {
		wantNumber(t, said("From", c.small, c.dims, c.at), c.want, c.err)(shape.From(c.small, c.dims, c.at))
	}
}

// P4.4: all elements of all pairs of small shapes and of those at the edges; just outside, too.
func TestFromPairs(t *testing.T) {
	all := append(shapes(3, 3), edges()...)
	for _, small := range all {
		for _, dims := range all {
			together, err := wantBroadcast(small, dims)
			size, _ := wantSize(dims)
			if err != api.OK || !slices.Equal(together, dims) {
				for _, at := range append([]int{-1, 0, size - 1, size}, outermost...) {
					wantNumber(t, said("From", small, dims, at), 0, api.ErrShape)(shape.From(small, dims, at))
				}
				continue
			}
			for at, want := range wantFrom(small, dims) {
				wantNumber(t, said("From", small, dims, at), want, api.OK)(shape.From(small, dims, at))
			}
			for _, at := range append([]int{-1, size, size + 1}, outermost...) {
				wantNumber(t, said("From", small, dims, at), 0, api.ErrPlace)(shape.From(small, dims, at))
			}
		}
	}
}
