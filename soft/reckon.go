package soft

import (
	"math/bits"

	"lattice/api"
)

// room is by how many bits 24 bits may go up, so that a sum of two such still fits into a word.
const room = 64 - 1 - 1 - fracBits

// AddBy is a sum, rounded by a way.
func AddBy(way int, a, b uint32) uint32 {
	switch {
	case NaN(a) || NaN(b):
		return api.FloatNaN
	case Inf(a) && Inf(b) && a != b:
		return api.FloatNaN
	case Inf(a):
		return a
	case Inf(b):
		return b
	}
	return sum(way, split(a), split(b))
}

// MulBy is a product, rounded by a way.
func MulBy(way int, a, b uint32) uint32 {
	neg := below(a) != below(b)
	ka, kb := kind(a), kind(b)
	switch {
	case ka == noNumber || kb == noNumber:
		return api.FloatNaN
	case ka == infinite && kb == nought, ka == nought && kb == infinite:
		return api.FloatNaN
	case ka == infinite || kb == infinite:
		return signBit(neg) | api.FloatInf
	}
	x, y := split(a), split(b)
	return Round(way, neg, x.exp+y.exp, x.sig*y.sig, false)
}

// DivBy is a quotient, rounded by a way.
func DivBy(way int, a, b uint32) uint32 {
	neg := below(a) != below(b)
	ka, kb := kind(a), kind(b)
	switch {
	case ka == noNumber || kb == noNumber:
		return api.FloatNaN
	case ka == infinite && kb == infinite, ka == nought && kb == nought:
		return api.FloatNaN
	case ka == infinite || kb == nought:
		return signBit(neg) | api.FloatInf
	case kb == infinite || ka == nought:
		return signBit(neg)
	}
	return quotient(way, neg, split(a), split(b))
}

// Add is the nearest sum.
func Add(a, b uint32) uint32 { return AddBy(api.Nearest, a, b) }

// Sub is the nearest difference.
func Sub(a, b uint32) uint32 { return Add(a, Neg(b)) }

// Mul is the nearest product.
func Mul(a, b uint32) uint32 { return MulBy(api.Nearest, a, b) }

// Div is the nearest quotient.
func Div(a, b uint32) uint32 { return DivBy(api.Nearest, a, b) }

// sum lays the two at one exponent; of the one with the lesser exponent bits may be lost, and more says so.
func sum(way int, x, y number) uint32 {
	if x.exp < y.exp {
		x, y = y, x
	}
	gap := x.exp - y.exp
	up := min(gap, room)
	down := gap - up
	exp := x.exp - up
	big, small := x.sig<<up, y.sig>>down
	more := small<<down != y.sig
	switch {
	case x.neg == y.neg:
		return Round(way, x.neg, exp, big+small, more)
	case big > small:
		if more {
			// What is lost is taken away as a whole one; the rest of that one is left over.
			small++
		}
		return Round(way, x.neg, exp, big-small, more)
	case big < small:
		// Bits are lost only far below a great x, so none here.
		return Round(way, y.neg, exp, small-big, false)
	}
	return signBit(way == api.Down)
}

// quotient divides two that are no noughts; with the first bit of x's word set there are at least 39 bits below its quotient's first one.
func quotient(way int, neg bool, x, y number) uint32 {
	lead := bits.LeadingZeros64(x.sig)
	top := x.sig << lead
	return Round(way, neg, x.exp-lead-y.exp, top/y.sig, top%y.sig != 0)
}
