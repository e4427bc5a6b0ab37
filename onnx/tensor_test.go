package onnx_test

import (
	"math"
	"testing"

	"lattice/api"
	"lattice/onnx"
)

// wantTensor asks what a tensor's fields say, as a constant and as an attribute's tensor.
func wantTensor(t *testing.T, l []part, want api.Tensor, err api.Errno) {
	t.Helper()
	try{"constant", only(l...), err, func(m *api.Model) { m.Inits[0] = api.Init{T: want} }}.run(t, "a tensor "+short(l))
	try{"attributeTensor", only(l...), err, func(m *api.Model) { firstNode(m).Attrs[1].T = want }}.run(t, "a tensor "+short(l))
	back := backwards(l)
	try{"constant", only(back...), err, func(m *api.Model) { m.Inits[0] = api.Init{T: want} }}.run(t, "a tensor "+short(back))
}

// lists are the same elements as a list and packed, in several ways, of a number and Wire.
func lists(num int, floats []uint32, numbers []int64) [][]part {
	var single, pairs []part
	for _, f := range floats {
		single = append(single, four(num, f))
	}
	for _, x := range numbers {
		single = append(single, number(num, x))
	}
	whole := data(num, joined(fours(floats), varints(numbers))...)
	for i, p := range single {
		pair := p
		if i%2 == 0 {
			pair = data(num, joined(fours(floats[:min(1, len(floats))]), varints(numbers[:min(1, len(numbers))]))...)
		}
		pairs = append(pairs, pair)
		floats, numbers = floats[min(1, len(floats)):], numbers[min(1, len(numbers)):]
	}
	return [][]part{single, parts(whole), pairs, joined(parts(data(num)), single, parts(data(num)))}
}

// Elements of each type by raw and by lists, numbers below 0 and any bits among them.
func TestElements(t *testing.T) {
	bits := floats(0, 0x80000000, 0x3F800000, 0x7F800001, 0xFFFFFFFF, 0x01020304)
	numbers := ints(0, -1, 1, math.MinInt64, math.MaxInt64, 0x0102030405060708)
	head := func(kind int64, dims ...int64) []part { return parts(packed(1, dims...), number(2, kind)) }
	wantF := api.Tensor{Type: api.Float, Dims: dims(2, 3), F: bits}
	wantI := api.Tensor{Type: api.Int, Dims: dims(6, 1), I: numbers}
	wantB := api.Tensor{Type: api.Bool, Dims: dims(6), B: []bool{false, true, true, false, true, false}}
	truths := ints(0, 1, 1, 0, 1, 0)
	wantTensor(t, append(head(1, 2, 3), fixed(9, bits...)), wantF, api.OK)
	wantTensor(t, append(head(7, 6, 1), whole(9, numbers...)), wantI, api.OK)
	wantTensor(t, append(head(9, 6), data(9, 0, 1, 1, 0, 1, 0)), wantB, api.OK)
	wantTensor(t, append(head(1, 1), data(9, 4, 3, 2, 1)), api.Tensor{Type: api.Float, Dims: dims(1), F: floats(0x01020304)}, api.OK)
	wantTensor(t, append(head(7, 1), data(9, 8, 7, 6, 5, 4, 3, 2, 1)), api.Tensor{Type: api.Int, Dims: dims(1), I: ints(0x0102030405060708)}, api.OK)
	for _, l := range lists(4, bits, nil) {
		wantTensor(t, append(head(1, 2, 3), l...), wantF, api.OK)
		wantTensor(t, append(head(7, 6, 1), l...), api.Tensor{}, api.ErrMalformed)
		wantTensor(t, append(head(9, 6), l...), api.Tensor{}, api.ErrMalformed)
	}
	for _, l := range lists(7, nil, numbers) {
		wantTensor(t, append(head(7, 6, 1), l...), wantI, api.OK)
		wantTensor(t, append(head(1, 2, 3), l...), api.Tensor{}, api.ErrMalformed)
		wantTensor(t, append(head(9, 6), l...), api.Tensor{}, api.ErrMalformed)
	}
	for _, l := range lists(5, nil, truths) {
		wantTensor(t, append(head(9, 6), l...), wantB, api.OK)
		wantTensor(t, append(head(1, 2, 3), l...), api.Tensor{}, api.ErrMalformed)
		wantTensor(t, append(head(7, 6, 1), l...), api.Tensor{}, api.ErrMalformed)
	}
	// A Bool's small numbers may not stand in the list of numbers, nor an Int's in that of small numbers.
	wantTensor(t, append(head(9, 6), packed(7, truths...)), api.Tensor{}, api.ErrMalformed)
	wantTensor(t, append(head(7, 6), packed(5, truths...)), api.Tensor{}, api.ErrMalformed)
}

// stock is so many elements of a type, by raw and by its list, and by the two other lists.
func stock(kind int64, n int) (raw, list part, others []part) {
	f, i := fixed(4, many(n, uint32(1))...), packed(7, many(n, int64(1))...)
	small := packed(5, many(n, int64(1))...)
	switch kind {
	case 1:
		return fixed(9, many(n, uint32(1))...), f, parts(i, small)
	case 7:
		return whole(9, many(n, int64(1))...), i, parts(f, small)
	}
	return data(9, many(n, byte(1))...), small, parts(f, i)
}

// ones is a tensor of so many.
func ones(kind int64, d []int, n int) api.Tensor {
	t := api.Tensor{Type: int(kind), Dims: d}
	switch kind {
	case 1:
		t.F = many(n, uint32(1))
	case 7:
		t.I = many(n, int64(1))
	case 9:
		t.B = many(n, true)
	}
	return t
}

// As many elements as the dims say, one more and one fewer; raw beside a list, and lists beside each other.
func TestHowManyElements(t *testing.T) {
	for _, kind := range ints(1, 7, 9) {
		for _, d := range [][]int{{}, {0}, {1}, {2}, {3, 2}, {0, 4}, {5000, 0}, {1, 1, 1, 1, 1, 1, 1, 1}, {4, 0, 4}, {17, 3}} {
			n, _ := wantCount(d)
			head := parts(packed(1, wide(d)...), number(2, kind))
			if len(d)%2 == 0 {
				head = parts(number(2, kind))
				for _, one := range wide(d) {
					head = append(head, number(1, one))
				}
			}
			for _, size := range dims(n-1, n, n+1, 2*n, 0, n+4, n+8, 4*n, 8*n) {
				if size < 0 {
					continue
				}
				raw, list, others := stock(kind, size)
				want, err := api.Tensor{}, api.ErrMalformed
				if size == n {
					want, err = ones(kind, d, n), api.OK
				}
				wantTensor(t, append(head, raw), want, err)
				wantTensor(t, append(head, list), want, err)
				_, one, more := stock(kind, 1)
				wantTensor(t, append(head, raw, one), api.Tensor{}, api.ErrMalformed)
				for i, other := range more {
					wantTensor(t, append(head, raw, other), api.Tensor{}, api.ErrMalformed)
					wantTensor(t, append(head, list, other), api.Tensor{}, api.ErrMalformed)
					wantTensor(t, append(head, other), api.Tensor{}, api.ErrMalformed)
					// A list that has a field, but nothing in it, has no elements.
					wantTensor(t, append(head, raw, data(others[i].num)), want, err)
					wantTensor(t, append(head, list, data(others[i].num)), want, err)
				}
				wantTensor(t, append(head, raw, data(list.num)), want, err)
				wantTensor(t, append(head, list, data(9)), map[bool]api.Tensor{true: want}[n+size == 0], map[bool]api.Errno{false: api.ErrMalformed}[n+size == 0])
			}
		}
	}
}

// Raw whose bytes are some, but no elements.
func TestRawBytes(t *testing.T) {
	for _, kind := range ints(1, 7, 9) {
		width := map[int64]int{1: 4, 7: 8, 9: 1}[kind]
		for n := range 5 {
			for size := range 45 {
				want, err := api.Tensor{}, api.ErrMalformed
				if size == n*width {
					want, err = api.Tensor{Type: int(kind), Dims: dims(n)}, api.OK
					switch kind {
					case 1:
						want.F = many(n, uint32(0))
					case 7:
						want.I = many(n, int64(0))
					case 9:
						want.B = many(n, false)
					}
				}
				wantTensor(t, parts(number(1, int64(n)), number(2, kind), data(9, make([]byte, size)...)), want, err)
			}
		}
	}
}

// A Bool is 0 or 1, at each place.
func TestTruths(t *testing.T) {
	head := parts(number(1, 3), number(2, 9))
	for at := range 3 {
		for value := range 256 {
			raw, list := make([]byte, 3), make([]int64, 3)
			raw[at], list[at] = byte(value), int64(value)
			want, err := api.Tensor{}, api.ErrMalformed
			if value <= 1 {
				want, err = api.Tensor{Type: api.Bool, Dims: dims(3), B: make([]bool, 3)}, api.OK
				want.B[at] = value == 1
			}
			wantTensor(t, append(head, data(9, raw...)), want, err)
			wantTensor(t, append(head, packed(5, list...)), want, err)
		}
		for _, value := range ints(-1, 1<<32, 1<<32+1, 1<<63-1, -1<<63, -1<<63+1, 256, 257) {
			list := make([]int64, 3)
			list[at] = value
			wantTensor(t, append(head, packed(5, list...)), api.Tensor{}, api.ErrMalformed)
		}
	}
	// What is malformed in a Bool may be in the other types.
	wantTensor(t, parts(number(2, 7), number(7, 2)), api.Tensor{Type: api.Int, I: ints(2)}, api.OK)
	wantTensor(t, parts(number(2, 1), data(9, 2, 3, 4, 5)), api.Tensor{Type: api.Float, F: floats(0x05040302)}, api.OK)
}

// Dims that may not be, and lists that are no lists; the elements are not looked at where the dims or the type are wrong.
func TestDimsOfTensors(t *testing.T) {
	five := packed(5, 5)
	for _, kind := range ints(1, 7, 9) {
		for _, c := range []struct {
			dims []int64
			err  api.Errno
		}{
			{ints(-1), api.ErrMalformed}, {ints(2, -1), api.ErrMalformed}, {ints(0, -1), api.ErrMalformed}, {ints(-1<<63, 0), api.ErrMalformed}, {ints(5000, -1), api.ErrMalformed}, {append(many(9, int64(1)), -1), api.ErrMalformed},
			{ints(4097), api.ErrLimit}, {ints(64, 65), api.ErrLimit}, {many(9, int64(1)), api.ErrLimit}, {many(9, int64(0)), api.ErrLimit}, {ints(1<<62, 4), api.ErrLimit}, {ints(1<<32, 1<<32), api.ErrLimit}, {ints(1<<63 - 1), api.ErrLimit},
			{many(5000, int64(1)), api.ErrLimit},
		} {
			for _, more := range [][]part{nil, parts(data(9, 7)), parts(five), parts(four(4, 1)), parts(number(7, 1)), parts(data(9), number(7, 1))} {
				wantTensor(t, append(more, packed(1, c.dims...), number(2, kind)), api.Tensor{}, c.err)
			}
			for _, bad := range parts(data(4, 1), data(5, 128), data(7, 255)) {
				wantTensor(t, parts(packed(1, c.dims...), number(2, kind), bad), api.Tensor{}, api.ErrMalformed)
			}
		}
		wantTensor(t, parts(data(1, 128), number(2, kind), data(9)), api.Tensor{}, api.ErrMalformed)
	}
	// Of a type that is strange there is no telling what its elements are.
	for _, more := range [][]part{nil, parts(data(9, 7)), parts(five), parts(four(4, 1)), parts(number(7, 1)), parts(data(9), number(7, 1))} {
		wantTensor(t, append(more, number(2, 5)), api.Tensor{}, api.ErrUnsupported)
		wantTensor(t, append(more, number(2, 0)), api.Tensor{}, api.ErrMalformed)
		wantTensor(t, append(more, number(2, 5), number(1, 4097)), api.Tensor{}, api.ErrUnsupported)
		wantTensor(t, append(more, number(2, 5), number(1, -1)), api.Tensor{}, api.ErrMalformed)
	}
}

// Tensors of as many elements as there may be.
func TestGreatTensors(t *testing.T) {
	for _, kind := range ints(1, 7, 9) {
		raw, list, _ := stock(kind, 4096)
		for _, d := range [][]int{{4096}, {64, 64}, {1, 2, 2048, 1}} {
			head := parts(packed(1, wide(d)...), number(2, kind))
			wantTensor(t, append(head, raw), ones(kind, d, 4096), api.OK)
			wantTensor(t, append(head, list), ones(kind, d, 4096), api.OK)
		}
		raw, list, _ = stock(kind, 4097)
		wantTensor(t, parts(number(1, 4097), number(2, kind), raw), api.Tensor{}, api.ErrLimit)
		wantTensor(t, parts(number(1, 4097), number(2, kind), list), api.Tensor{}, api.ErrLimit)
		wantTensor(t, parts(number(1, 4096), number(2, kind), raw), api.Tensor{}, api.ErrMalformed)
		wantTensor(t, parts(number(1, 4096), number(2, kind), list), api.Tensor{}, api.ErrMalformed)
	}
}

// A float keeps its bits, a no number too, wherever it stands.
func TestBitsStay(t *testing.T) {
	for _, bits := range floats(0x7F800001, 0xFFC00001, 0x7FC00000, 0x80000000, 0x00000001, 0xFF800000) {
		b := edits{"attribute": only(four(2, bits), number(20, 1)), "attributeTensor": only(number(2, 1), four(4, bits)), "constant": only(number(2, 1), fixed(9, bits))}.file()
		m, err := onnx.Decode(b)
		if err != api.OK || m.Nodes[0].Attrs[0].F != bits || m.Nodes[0].Attrs[1].T.F[0] != bits || m.Inits[0].T.F[0] != bits {
			t.Errorf("%08X: %v, %v", bits, short(m), err)
		}
	}
}
