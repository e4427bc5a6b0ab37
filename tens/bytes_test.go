package tens_test

import (
	"encoding/binary"
	"slices"
	"testing"

	"lattice/api"
	"lattice/seeds"
	"lattice/tens"
)

// wantBytes is P5.5 by the library's own way to lay numbers.
func wantBytes(x api.Tensor) []byte {
	var b []byte
	for _, f := range x.F {
		b = binary.LittleEndian.AppendUint32(b, f)
	}
	for _, n := range x.I {
		b = binary.LittleEndian.AppendUint64(b, uint64(n))
	}
	for _, truth := range x.B {
		one := map[bool]byte{true: 1}[truth]
		b = append(b, one)
	}
	return b
}

// P5.5: how wide an element is, and 0 of what is no type.
func TestWidth(t *testing.T) {
	for _, k := range kinds {
		if got := tens.Width(k.kind); got != k.width {
			t.Errorf("Width(%d): %d, want %d", k.kind, got, k.width)
		}
	}
	for _, kind := range noKinds {
		if got := tens.Width(kind); got != 0 {
			t.Errorf("Width(%d): %d, want 0", kind, got)
		}
	}
	for kind := -300; kind <= 300; kind++ {
		if kind != api.Float && kind != api.Int && kind != api.Bool && tens.Width(kind) != 0 {
			t.Errorf("Width(%d): %d, want 0", kind, tens.Width(kind))
		}
	}
}

// P5.5: bytes told here one by one.
func TestBytesWrittenOut(t *testing.T) {
	for _, c := range []struct {
		x    api.Tensor
		want []byte
	}{
		{api.Tensor{Type: api.Float, Dims: list(3), F: []uint32{0x01020304, 0x3F800000, 0xFF800001}}, []byte{4, 3, 2, 1, 0, 0, 0x80, 0x3F, 1, 0, 0x80, 0xFF}},
		{whole(-2, 0x0102030405060708), []byte{0xFE, 0xFF, 0xFF, 0xFF, 0xFF, 0xFF, 0xFF, 0xFF, 8, 7, 6, 5, 4, 3, 2, 1}},
		{api.Tensor{Type: api.Bool, Dims: list(2, 2), B: []bool{true, false, false, true}}, []byte{1, 0, 0, 1}},
		{api.Tensor{Type: api.Bool, B: []bool{true}}, []byte{1}},
		{api.Tensor{Type: api.Float, F: []uint32{0x80000000}}, []byte{0, 0, 0, 0x80}},
		{api.Tensor{Type: api.Int, Dims: list(0, 4096)}, nil},
	} {
		wantRow(t, said("Bytes of ", short(c.x)), c.want, api.OK)(tens.Bytes(c.x))
		wantTensor(t, said("FromBytes of ", c.want), c.x, api.OK)(tens.FromBytes(c.x.Type, c.x.Dims, c.want))
	}
}

// P5.5: bytes of each type and shape, and the tensor of such bytes: its floats stay as they are, no numbers too.
func TestBytes(t *testing.T) {
	for _, k := range kinds {
		for _, dims := range shapes() {
			x := filled(k.kind, dims)
			b := wantBytes(x)
			wantRow(t, said("Bytes of ", short(x)), b, api.OK)(tens.Bytes(x))
			wantTensor(t, said("FromBytes ", k.kind, dims), x, api.OK)(tens.FromBytes(k.kind, dims, b))
		}
	}
}

// P5.5: Bytes tells Check's error.
func TestBytesRefuses(t *testing.T) {
	for _, c := range refusedTensors() {
		wantRow(t, said("Bytes of ", short(c.t)), []byte(nil), c.err)(tens.Bytes(c.t))
	}
}

// P5.5: a type that is none, a shape that may not be, another count of bytes, and a Bool's byte, in this order.
func TestFromBytesFirstError(t *testing.T) {
	some := [][]byte{nil, {0}, {2}, {1, 2}, make([]byte, 4), make([]byte, 8), slices.Repeat([]byte{2}, 8)}
	for _, b := range some {
		for _, kind := range noKinds {
			for _, dims := range [][]int{nil, {0}, {1}, {-1}, {4097}, {8}} {
				wantTensor(t, said("FromBytes ", kind, dims, b), api.Tensor{}, api.ErrType)(tens.FromBytes(kind, dims, b))
			}
		}
		for _, k := range kinds {
			for _, s := range refusedShapes() {
				wantTensor(t, said("FromBytes ", k.kind, s.dims, b), api.Tensor{}, s.err)(tens.FromBytes(k.kind, s.dims, b))
			}
		}
	}
	for _, k := range kinds {
		for _, dims := range shapes() {
			n := product(dims)
			for _, wrong := range list(0, 1, n, 2*n, n*k.width-1, n*k.width+1, (n+1)*k.width, (n-1)*k.width, n*4, n*8, 40000) {
				if wrong < 0 || wrong == n*k.width {
					continue
				}
				for _, fill := range []byte{0, 2} {
					b := slices.Repeat([]byte{fill}, wrong)
					wantTensor(t, said("FromBytes ", k.kind, dims, wrong, " bytes"), api.Tensor{}, api.ErrShape)(tens.FromBytes(k.kind, dims, b))
				}
			}
		}
	}
}

// P5.5: a Bool's byte that is neither 0 nor 1, at each place; of the other types any byte may be.
func TestFromBytesTruths(t *testing.T) {
	for value := range 256 {
		for at := range 5 {
			b := []byte{0, 1, 1, 0, 1}
			b[at] = byte(value)
			want, err := api.Tensor{}, api.ErrArg
			if value <= 1 {
				want, err = api.Tensor{Type: api.Bool, Dims: list(5)}, api.OK
				for _, one := range b {
					want.B = append(want.B, one == 1)
				}
			}
			wantTensor(t, said("FromBytes of bools ", b), want, err)(tens.FromBytes(api.Bool, list(5), b))
		}
		b := slices.Repeat([]byte{byte(value)}, 8)
		word := uint32(value) * 0x01010101
		wantTensor(t, said("FromBytes of floats ", b), api.Tensor{Type: api.Float, Dims: list(2), F: []uint32{word, word}}, api.OK)(tens.FromBytes(api.Float, list(2), b))
		wantTensor(t, said("FromBytes of ints ", b), api.Tensor{Type: api.Int, I: []int64{int64(word)<<32 | int64(word)}}, api.OK)(tens.FromBytes(api.Int, nil, b))
	}
}

// P5.5: tensors of any bits.
func TestBytesOfAny(t *testing.T) {
	s := seeds.Seed(3)
	for range 3000 {
		x := anyTensor(&s)
		if tens.Check(x) != api.OK {
			continue
		}
		wantRow(t, said("Bytes of ", short(x)), wantBytes(x), api.OK)(tens.Bytes(x))
	}
}
