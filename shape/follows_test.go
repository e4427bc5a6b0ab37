package shape_test

import (
	"slices"
	"testing"

	"lattice/api"
	"lattice/seeds"
	"lattice/shape"
)

// anyShape is a shape that may be.
func anyShape(s *seeds.Seed) []int {
	dims := make([]int, s.Below(9))
	for i := range dims {
		dims[i] = 1 + s.Below(1+s.Below(7))
	}
	if _, err := wantSize(dims); err != api.OK {
		return dims[:min(4, len(dims))]
	}
	return dims
}

// P4.6: Offset of Index is the place, Index of Offset the indices, and the offset the sum of indices times strides.
func TestThereAndBack(t *testing.T) {
	s := seeds.Seed(4)
	for range 20000 {
		dims := anyShape(&s)
		size, _ := shape.Size(dims)
		at := s.Below(size)
		index, err := shape.Index(dims, at)
		back, backErr := shape.Offset(dims, index)
		if err != api.OK || backErr != api.OK || back != at {
			t.Fatalf("place %d of %v: %v, %v, and back %d, %v", at, dims, index, err, back, backErr)
		}
		strides, _ := shape.Strides(dims)
		sum := 0
		for i := range index {
			sum += index[i] * strides[i]
			index[i] = s.Below(dims[i])
		}
		if sum != at {
			t.Fatalf("place %d of %v: by strides %d", at, dims, sum)
		}
		at, _ = shape.Offset(dims, index)
		wantList(t, said("Index", dims, at), index, api.OK)(shape.Index(dims, at))
	}
}

// fewer is a shape that spreads to dims: some of its dims are 1, some of those ahead are left out.
func fewer(s *seeds.Seed, dims []int) []int {
	small := slices.Clone(dims[s.Below(len(dims)+1):])
	for i := range small {
		if s.Below(2) == 0 {
			small[i] = 1
		}
	}
	return small
}

// P4.6: Broadcast changed about, of a shape with itself, and of what comes of two with each of them.
func TestBroadcastFollows(t *testing.T) {
	s := seeds.Seed(5)
	for range 20000 {
		dims := anyShape(&s)
		a, b := fewer(&s, dims), fewer(&s, dims)
		both, err := shape.Broadcast(a, b)
		if err != api.OK {
			t.Fatalf("Broadcast(%v, %v): %v", a, b, err)
		}
		wantList(t, said("Broadcast", b, a), both, api.OK)(shape.Broadcast(b, a))
		wantList(t, said("Broadcast", dims, dims), dims, api.OK)(shape.Broadcast(dims, dims))
		for _, one := range [][]int{a, b} {
			wantList(t, said("Broadcast", one, both), both, api.OK)(shape.Broadcast(one, both))
			wantList(t, said("Broadcast", both, one), both, api.OK)(shape.Broadcast(both, one))
		}
		size, _ := shape.Size(both)
		at := s.Below(size)
		want := wantFrom(a, both)
		wantNumber(t, said("From", a, both, at), want[at], api.OK)(shape.From(a, both, at))
		wantNumber(t, said("From", both, both, at), at, api.OK)(shape.From(both, both, at))
	}
}

// P4.6: changed about the error is the same, too, if both shapes may be.
func TestRefusedChangedAbout(t *testing.T) {
	all := append(shapes(2, 4), edges()...)
	for _, a := range all {
		wantList(t, said("Broadcast", a, a), a, api.OK)(shape.Broadcast(a, a))
		for _, b := range all {
			want, err := shape.Broadcast(a, b)
			wantList(t, said("Broadcast", b, a), want, err)(shape.Broadcast(b, a))
		}
	}
}
