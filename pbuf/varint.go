package pbuf

import "lattice/api"

const (
	// moreBit is set in a varint's byte if another one comes behind it.
	moreBit = 128
	// lowBits is how many bits of the number a byte has.
	lowBits = 7
	// lastAt is the place of the tenth byte, in which one bit of the number is left.
	lastAt = 9
)

// Varint is a number's shortest form.
func Varint(x uint64) []byte { return withVarint(nil, x) }

// ReadVarint is the number that stands at a place, and the place behind it.
func ReadVarint(b []byte, at int) (uint64, int, api.Errno) {
	if at < 0 || at > len(b) {
		return 0, 0, api.ErrPlace
	}
	x := uint64(0)
	for i, one := range b[at:] {
		// A tenth byte that asks for an eleventh one is above 1, too.
		if i == lastAt && one > 1 {
			break
		}
		x |= uint64(one&^moreBit) << (lowBits * i)
		if one < moreBit {
			return x, at + i + 1, api.OK
		}
	}
	return 0, 0, api.ErrMalformed
}

// withVarint is b with a number's shortest form behind it.
func withVarint(b []byte, x uint64) []byte {
	for x >= moreBit {
		b = append(b, byte(x)|moreBit)
		x >>= lowBits
	}
	return append(b, byte(x))
}
