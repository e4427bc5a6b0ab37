package shape_test

import (
	"slices"
	"testing"

	"lattice/api"
	"lattice/seeds"
	"lattice/shape"
)

// The document's R1, R3 and R4: whatever is handed in, each call ends without a panic, changes nothing of it, and answers zero values beside an error.
func TestAnyArguments(t *testing.T) {
	s := seeds.Seed(6)
	for range 50000 {
		a, b, at, rank := anyList(&s), anyList(&s), anyNumber(&s), anyNumber(&s)
		sameA, sameB := slices.Clone(a), slices.Clone(b)
		size, err := shape.Size(a)
		zeroBeside(t, "Size", size == 0, err, api.ErrArg, api.ErrSize)
		strides, err := shape.Strides(a)
		zeroBeside(t, "Strides", len(strides) == 0, err, api.ErrArg, api.ErrSize)
		index, err := shape.Index(a, at)
		zeroBeside(t, "Index", len(index) == 0, err, api.ErrArg, api.ErrSize, api.ErrPlace)
		offset, err := shape.Offset(a, b)
		zeroBeside(t, "Offset", offset == 0, err, api.ErrArg, api.ErrSize, api.ErrPlace)
		both, err := shape.Broadcast(a, b)
		zeroBeside(t, "Broadcast", len(both) == 0, err, api.ErrArg, api.ErrSize, api.ErrShape)
		from, err := shape.From(a, b, at)
		zeroBeside(t, "From", from == 0, err, api.ErrArg, api.ErrSize, api.ErrShape, api.ErrPlace)
		axis, err := shape.Axis(at, rank)
		zeroBeside(t, "Axis", axis == 0, err, api.ErrPlace)
		named, err := shape.Axes(a, rank)
		zeroBeside(t, "Axes", len(named) == 0, err, api.ErrArg, api.ErrPlace)
		if !slices.Equal(a, sameA) || !slices.Equal(b, sameB) {
			t.Fatalf("%v, %v became %v, %v", sameA, sameB, a, b)
		}
	}
}

// zeroBeside: the error is OK or one that the call may tell, and the rest is zero beside it.
func zeroBeside(t *testing.T, call string, zero bool, err api.Errno, may ...api.Errno) {
	t.Helper()
	if err != api.OK && (!zero || !slices.Contains(may, err)) {
		t.Fatalf("%s: %v, zero beside it: %v", call, err, zero)
	}
}

// R3: what is answered shares no memory with what was handed in, nor with another answer.
func TestNewMemory(t *testing.T) {
	s := seeds.Seed(7)
	for range 2000 {
		a := anyShape(&s)
		b := fewer(&s, a)
		sameA, sameB := slices.Clone(a), slices.Clone(b)
		lists := func() [][]int {
			both, _ := shape.Broadcast(a, b)
			about, _ := shape.Broadcast(b, a)
			itself, _ := shape.Broadcast(a, a)
			strides, _ := shape.Strides(a)
			index, _ := shape.Index(a, 0)
			return [][]int{both, about, itself, strides, index}
		}
		first, want := lists(), lists()
		for _, list := range first {
			full := list[:cap(list)]
			for i := range full {
				full[i] = -7
			}
		}
		if !slices.Equal(a, sameA) || !slices.Equal(b, sameB) {
			t.Fatalf("%v, %v became %v, %v", sameA, sameB, a, b)
		}
		for i, list := range lists() {
			if !slices.Equal(list, want[i]) {
				t.Fatalf("of %v, %v: answer %d is %v, and was %v", a, b, i, list, want[i])
			}
		}
	}
}
