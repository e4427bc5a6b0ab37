package shape_test

import (
	"slices"
	"testing"

	"lattice/api"
	"lattice/shape"
)

// P4.2: of each dim the product of all behind it.
func TestStrides(t *testing.T) {
	for _, c := range []struct{ dims, want []int }{
		{nil, nil}, {dims(), nil}, {dims(0), dims(1)}, {dims(1), dims(1)}, {dims(4096), dims(1)}, {dims(5, 1, 7), dims(7, 7, 1)},
		{dims(2, 2, 2, 2, 2, 2, 2, 32), dims(2048, 1024, 512, 256, 128, 64, 32, 1)}, {times(8, 1), times(8, 1)},
		{dims(0, 3), dims(3, 1)}, {dims(3, 0), dims(0, 1)}, {dims(2, 0, 3), dims(0, 3, 1)}, {dims(0, 4096, 4096), dims(1<<24, 4096, 1)},
		// Whole numbers come round, where there are no elements but much behind a dim.
		{append(dims(0), times(7, 4096)...), dims(0, 0, 1<<60, 1<<48, 1<<36, 1<<24, 4096, 1)},
		{append(dims(0), times(6, 4095)...), dims(-6913308277128323071, 1151514816750309375, 281200199450625, 68669157375, 16769025, 4095, 1)},
	} {
		wantList(t, said("Strides", c.dims), c.want, api.OK)(shape.Strides(c.dims))
	}
}

// P4.2: one more of an index goes on by the stride, in all shapes of few dims and those at the edges.
func TestStridesAreSteps(t *testing.T) {
	for _, dims := range append(shapes(4, 3), edges()...) {
		strides, err := shape.Strides(dims)
		if err != api.OK || len(strides) != len(dims) {
			t.Fatalf("Strides(%v): %v, %v", dims, strides, err)
		}
		visit(someOf(dims), func(index []int) {
			for i := range index {
				next := slices.Clone(index)
				next[i]++
				here, _ := shape.Offset(dims, index)
				there, err := shape.Offset(dims, next)
				if next[i] < dims[i] && (err != api.OK || there-here != strides[i]) {
					t.Fatalf("in %v from %v to %v: %d, want %d", dims, index, next, there-here, strides[i])
				}
			}
		})
	}
}

// someOf is a shape within dims whose elements are few enough to try each with another.
func someOf(dims []int) []int {
	few := slices.Clone(dims)
	for i, d := range few {
		few[i] = min(d, 40)
	}
	return few
}

// P4.2: Index and Offset of all elements, counted in row order by the test itself.
func TestEachPlace(t *testing.T) {
	for _, dims := range append(shapes(4, 4), edges()...) {
		at := 0
		visit(dims, func(index []int) {
			wantList(t, said("Index", dims, at), index, api.OK)(shape.Index(dims, at))
			wantNumber(t, said("Offset", dims, index), at, api.OK)(shape.Offset(dims, index))
			at++
		})
		wantNumber(t, said("Size", dims), at, api.OK)(shape.Size(dims))
		for _, at := range append([]int{-1, -2, -at, at, at + 1, at + 4096}, outermost...) {
			if at != 0 || slices.Contains(dims, 0) {
				wantList(t, said("Index", dims, at), nil, api.ErrPlace)(shape.Index(dims, at))
			}
		}
	}
}

// P4.2: of no dims the one element has no indices.
func TestPlaceOfNoDims(t *testing.T) {
	for _, none := range [][]int{nil, {}} {
		wantList(t, "Index((), 0)", nil, api.OK)(shape.Index(none, 0))
		wantList(t, "Index((), 1)", nil, api.ErrPlace)(shape.Index(none, 1))
		wantList(t, "Index((), -1)", nil, api.ErrPlace)(shape.Index(none, -1))
		for _, index := range [][]int{nil, {}} {
			wantNumber(t, "Offset((), ())", 0, api.OK)(shape.Offset(none, index))
		}
		wantNumber(t, "Offset((), (0))", 0, api.ErrPlace)(shape.Offset(none, dims(0)))
	}
}

// P4.2: indices of another length, and each one just outside of its dim.
func TestWrongIndices(t *testing.T) {
	for _, dims := range append(shapes(3, 3), edges()...) {
		first := times(len(dims), 0)
		last := slices.Clone(dims)
		for i := range last {
			last[i]--
		}
		for _, index := range [][]int{first, last} {
			wantNumber(t, said("Offset", dims, with(index, 0)), 0, api.ErrPlace)(shape.Offset(dims, with(index, 0)))
			if len(index) == 0 {
				continue
			}
			wantNumber(t, said("Offset", dims, index[1:]), 0, api.ErrPlace)(shape.Offset(dims, index[1:]))
			wantNumber(t, said("Offset", dims, nil), 0, api.ErrPlace)(shape.Offset(dims, nil))
			for i, d := range dims {
				for _, n := range append([]int{-1, d, d + 1}, outermost...) {
					wrong := slices.Clone(index)
					wrong[i] = n
					wantNumber(t, said("Offset", dims, wrong), 0, api.ErrPlace)(shape.Offset(dims, wrong))
				}
			}
		}
	}
}

// P4.2: an index that is too great is no place, though another one that is below 0 would lead back into the shape.
func TestIndicesStandAlone(t *testing.T) {
	wantNumber(t, "Offset((2 3), (0 4))", 0, api.ErrPlace)(shape.Offset(dims(2, 3), dims(0, 4)))
	wantNumber(t, "Offset((2 3), (1 -1))", 0, api.ErrPlace)(shape.Offset(dims(2, 3), dims(1, -1)))
	wantNumber(t, "Offset((2 3), (2 -3))", 0, api.ErrPlace)(shape.Offset(dims(2, 3), dims(2, -3)))
	wantNumber(t, "Offset((3 2), (-1 5))", 0, api.ErrPlace)(shape.Offset(dims(3, 2), dims(-1, 5)))
}
