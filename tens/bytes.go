package tens

import "lattice/api"

// Bytes are a tensor's.
func Bytes(t api.Tensor) ([]byte, api.Errno) {
	if err := Check(t); err != api.OK {
		return nil, err
	}
	// One of the three lists has all of the elements, so that they can stand one behind the other.
	b := laid(nil, t.F, Width(api.Float), func(f uint32) uint64 { return uint64(f) })
	b = laid(b, t.I, Width(api.Int), func(n int64) uint64 { return uint64(n) })
	b = laid(b, t.B, Width(api.Bool), truthBit)
	return b, api.OK
}

// FromBytes is the tensor of some bytes.
func FromBytes(kind int, dims []int, b []byte) (api.Tensor, api.Errno) {
	size, err := sized(kind, dims)
	switch {
	case err != api.OK:
		return api.Tensor{}, err
	case len(b) != size*Width(kind):
		return api.Tensor{}, api.ErrShape
	case kind == api.Bool && !truths(b):
		return api.Tensor{}, api.ErrArg
	}
	t := api.Tensor{Type: kind, Dims: copied(dims)}
	switch kind {
	case api.Float:
		t.F = read(b, Width(kind), func(bits uint64) uint32 { return uint32(bits) })
	case api.Int:
		t.I = read(b, Width(kind), func(bits uint64) int64 { return int64(bits) })
	case api.Bool:
		t.B = read(b, Width(kind), func(bits uint64) bool { return bits == 1 })
	}
	return t, api.OK
}

// laid is b with a list's elements behind it.
func laid[E any](b []byte, list []E, width int, bitsOf func(E) uint64) []byte {
	for _, e := range list {
		bits := bitsOf(e)
		for range width {
			b = append(b, byte(bits))
			bits >>= 8
		}
	}
	return b
}

// read is the list whose elements have such bytes; b is known to end with one.
func read[E any](b []byte, width int, made func(uint64) E) []E {
	list := make([]E, len(b)/width)
	for i := range list {
		bits := uint64(0)
		// From the last byte back, as that is the greatest one.
		for j := width - 1; j >= 0; j-- {
			bits = bits<<8 | uint64(b[i*width+j])
		}
		list[i] = made(bits)
	}
	return list
}

// truthBit is 1 of true, else 0.
func truthBit(truth bool) uint64 {
	if truth {
		return 1
	}
	return 0
}

// truths: is each byte 0 or 1?
func truths(b []byte) bool {
	for _, one := range b {
		if one > 1 {
			return false
		}
	}
	return true
}
