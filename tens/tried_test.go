package tens_test

import (
	"fmt"
	"math"
	"slices"
	"testing"

	"lattice/api"
	"lattice/seeds"
)

// This file holds what the tests try, and how they hold an answer against what is asked.

// kinds are the types that there are, with the bytes of an element.
var kinds = []struct{ kind, width int }{{api.Float, 4}, {api.Int, 8}, {api.Bool, 1}}

// noKinds are numbers that are no type: those between and beside the three, ONNX's others, and the outermost.
var noKinds = []int{api.None, -1, 2, 3, 4, 5, 6, 8, 10, 11, 16, -7, -9, 1 + 256, 7 + 256, 9 + 1<<16, 1 + 1<<32, 7 + 1<<32, math.MinInt, math.MinInt + 1, math.MaxInt}

// floats are bits of each sort: noughts, the least, ordinary ones, the most, infinite ones, and no numbers.
var floats = []uint32{
	0, 0x80000000, 1, 0x80000001, 0x007FFFFF, 0x00800000, 0x3F800000, 0xBF800000, 0x01020304, 0xFFFEFDFC &^ 0x7F800000, 0x7F7FFFFF, 0xFF7FFFFF,
	0x7F800000, 0xFF800000, 0x7FC00000, 0xFFC00000, 0x7F800001, 0xFF800001, 0x7FFFFFFF, 0xFFFFFFFF, 0x7FBFFFFF, 0x7FC00001,
}

// wholes are numbers whose bytes differ, and the outermost.
var wholes = []int64{0, 1, -1, 5, 7, 255, 256, -256, 1 << 31, 1<<32 - 1, 1 << 32, 0x0102030405060708, -0x0102030405060708, math.MaxInt64, math.MinInt64, math.MaxInt64 - 1}

// list is dims or places.
func list(numbers ...int) []int { return numbers }

// times is a shape of n dims d.
func times(n, d int) []int { return slices.Repeat([]int{d}, n) }

// product is how many elements dims have; a 0 comes ahead, as much may stand beside it.
func product(dims []int) int {
	if slices.Contains(dims, 0) {
		return 0
	}
	n := 1
	for _, d := range dims {
		n *= d
	}
	return n
}

// filled is a tensor whose elements differ where they can.
func filled(kind int, dims []int) api.Tensor {
	t := api.Tensor{Type: kind, Dims: dims}
	for i := range product(dims) {
		switch kind {
		case api.Float:
			t.F = append(t.F, floats[i%len(floats)]^uint32(i/len(floats))<<3)
		case api.Int:
			t.I = append(t.I, wholes[i%len(wholes)]+int64(i/len(wholes)))
		case api.Bool:
			t.B = append(t.B, i*i%7%3 == 1)
		}
	}
	return t
}

// shapes are those that may be: ordinary ones, and the edges.
func shapes() [][]int {
	return [][]int{
		nil, {}, {0}, {1}, {2}, {3}, {5}, {22}, {2, 3}, {3, 2}, {1, 1}, {0, 3}, {3, 0}, {2, 1, 2}, {2, 3, 4, 5}, times(8, 1), times(8, 2), times(8, 0),
		{4095}, {4096}, {64, 64}, {2, 2048}, {1, 4096, 1, 1, 1, 1, 1, 1}, {0, 4096, 4096}, {4096, 4096, 0},
	}
}

// refusedShapes are those that may not be, with shape.Size's error.
func refusedShapes() []struct {
	dims []int
	err  api.Errno
} {
	return []struct {
		dims []int
		err  api.Errno
	}{
		{list(-1), api.ErrArg}, {list(2, -1), api.ErrArg}, {list(0, -1), api.ErrArg}, {list(-2, -3), api.ErrArg}, {list(4097, -1), api.ErrArg}, {list(math.MinInt), api.ErrArg}, {append(times(8, 1), -1), api.ErrArg},
		{list(4097), api.ErrSize}, {list(64, 65), api.ErrSize}, {list(0, 4097), api.ErrSize}, {times(9, 1), api.ErrSize}, {times(9, 0), api.ErrSize}, {list(1<<32, 1<<32), api.ErrSize}, {list(math.MaxInt), api.ErrSize}, {times(8, 256), api.ErrSize},
	}
}

// refusedTensors are those that may not be, with Check's error.
func refusedTensors() []struct {
	t   api.Tensor
	err api.Errno
} {
	type row = struct {
		t   api.Tensor
		err api.Errno
	}
	var rows []row
	for _, kind := range noKinds {
		rows = append(rows, row{api.Tensor{Type: kind}, api.ErrType}, row{api.Tensor{Type: kind, Dims: list(-1)}, api.ErrType}, row{api.Tensor{Type: kind, Dims: list(4097)}, api.ErrType},
			row{api.Tensor{Type: kind, Dims: list(0)}, api.ErrType}, row{api.Tensor{Type: kind, Dims: list(1), F: []uint32{1}}, api.ErrType}, row{api.Tensor{Type: kind, I: []int64{1}}, api.ErrType}, row{api.Tensor{Type: kind, B: []bool{true, true}}, api.ErrType})
	}
	for _, k := range kinds {
		for _, s := range refusedShapes() {
			one := filled(k.kind, list(1))
			one.Dims = s.dims
			rows = append(rows, row{one, s.err}, row{api.Tensor{Type: k.kind, Dims: s.dims}, s.err})
		}
		for _, dims := range shapes() {
			rows = append(rows, wrongLists(k.kind, dims)...)
		}
	}
	return rows
}

// wrongLists are tensors of a type and dims that may be, with lists that do not fit: too short, too long, of another type, and more than one.
func wrongLists(kind int, dims []int) []struct {
	t   api.Tensor
	err api.Errno
} {
	n := product(dims)
	var all []api.Tensor
	if n > 0 {
		all = append(all, api.Tensor{}, filled(kind, list(n-1)))
	}
	all = append(all, filled(kind, list(n+1)), filled(kind, list(2*n+1)))
	for _, k := range kinds {
		if k.kind == kind {
			continue
		}
		for _, m := range list(1, n, n+1) {
			other := filled(k.kind, list(m))
			if m > 0 {
				all = append(all, other, joined(filled(kind, dims), other))
			}
		}
	}
	all = append(all, joined(filled(api.Bool, list(1)), joined(filled(api.Float, list(1)), filled(api.Int, list(1)))))
	var rows []struct {
		t   api.Tensor
		err api.Errno
	}
	for _, t := range all {
		t.Type, t.Dims = kind, dims
		rows = append(rows, struct {
			t   api.Tensor
			err api.Errno
		}{t, api.ErrShape})
	}
	return rows
}

// joined is a tensor with the lists of both; each is of a type of its own.
func joined(a, b api.Tensor) api.Tensor {
	return api.Tensor{Type: a.Type, Dims: a.Dims, F: append(a.F, b.F...), I: append(a.I, b.I...), B: append(a.B, b.B...)}
}

// anyNumber is mostly a small one, or near an edge.
func anyNumber(s *seeds.Seed) int {
	switch s.Below(8) {
	case 0:
		return list(math.MinInt, math.MinInt+1, math.MaxInt, math.MaxInt-1)[s.Below(4)]
	case 1:
		return int(s.Next())
	case 2:
		return 4094 + s.Below(5)
	}
	return s.Below(6) - 1
}

// anyList is mostly a short list of small numbers.
func anyList(s *seeds.Seed) []int {
	numbers := make([]int, s.Below(4+s.Below(8)))
	for i := range numbers {
		numbers[i] = s.Below(4)
		if s.Below(9) == 0 {
			numbers[i] = anyNumber(s)
		}
	}
	return numbers
}

// anyKind is mostly one that may be.
func anyKind(s *seeds.Seed) int {
	if s.Below(6) == 0 {
		return anyNumber(s)
	}
	return kinds[s.Below(len(kinds))].kind
}

// anyTensor is one of any bits that may be, or, now and then, one whose lists do not fit.
func anyTensor(s *seeds.Seed) api.Tensor {
	t := api.Tensor{Type: anyKind(s), Dims: anyList(s)}
	n := 1
	for _, d := range t.Dims {
		n = min(max(n*min(max(d, 0), 5000), 0), 5000)
	}
	if s.Below(6) == 0 {
		n += s.Below(3) - 1
	}
	own := t.Type
	if s.Below(9) == 0 {
		own = anyKind(s)
	}
	for range n {
		switch own {
		case api.Float:
			t.F = append(t.F, anyFloat(s))
		case api.Int:
			t.I = append(t.I, int64(s.Next()))
		case api.Bool:
			t.B = append(t.B, s.Below(2) == 1)
		}
	}
	return t
}

// anyFloat is any bits, some of them no numbers.
func anyFloat(s *seeds.Seed) uint32 {
	f := uint32(s.Next())
	if s.Below(4) == 0 {
		f |= 0x7F800000
	}
	return f
}

// cloned is the tensor in memory that the tests keep for themselves.
func cloned(t api.Tensor) api.Tensor {
	return api.Tensor{Type: t.Type, Dims: slices.Clone(t.Dims), F: slices.Clone(t.F), I: slices.Clone(t.I), B: slices.Clone(t.B)}
}

// alike holds two tensors against each other, element by element, so that it does not lean on Same.
func alike(a, b api.Tensor) bool {
	return a.Type == b.Type && alikeRows(a.Dims, b.Dims) && alikeRows(a.F, b.F) && alikeRows(a.I, b.I) && alikeRows(a.B, b.B)
}

func alikeRows[E comparable](a, b []E) bool {
	for i := range min(len(a), len(b)) {
		if a[i] != b[i] {
			return false
		}
	}
	return len(a) == len(b)
}

// short is a tensor in a text for what a test tells.
func short(t api.Tensor) string {
	return fmt.Sprintf("type %d dims %d floats %08X ints %d bools %t", t.Type, first(t.Dims), first(t.F), first(t.I), first(t.B))
}

// first is the beginning of a list.
func first[E any](row []E) []E { return row[:min(len(row), 12)] }

// wantTensor asks an answer of a tensor; beside an error it is a zero one.
func wantTensor(t *testing.T, call string, want api.Tensor, wantErr api.Errno) func(api.Tensor, api.Errno) {
	return func(got api.Tensor, err api.Errno) {
		t.Helper()
		if err != wantErr || !alike(got, want) {
			t.Errorf("%s: %s, %v; want %s, %v", call, short(got), err, short(want), wantErr)
		}
	}
}

// wantRow asks an answer of a list; beside an error it has no elements.
func wantRow[E comparable](t *testing.T, call string, want []E, wantErr api.Errno) func([]E, api.Errno) {
	return func(got []E, err api.Errno) {
		t.Helper()
		if err != wantErr || !slices.Equal(got, want) {
			t.Errorf("%s: %v, %v; want %v, %v", call, first(got), err, first(want), wantErr)
		}
	}
}

// said is a call with its arguments, for what a test tells.
func said(name string, args ...any) string { return name + fmt.Sprint(args...) }
