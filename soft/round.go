package soft

import (
	"math/bits"

	"lattice/api"
)

const (
	// far is an exponent beyond which nothing changes any more: 2^far is above all floats, 2^64 * 2^-far below them.
	far = 1000
	// wide is how many bits of a word whose first bit is 1 a float has no place for.
	wide = 64 - 1 - fracBits
	// mostField is the exponent field of the greatest finite floats.
	mostField = expMask - 1
)

// Round is the float that a number is rounded to.
func Round(way int, neg bool, exp int, sig uint64, more bool) uint32 {
	sign := signBit(neg)
	if sig == 0 {
		if !more {
			return sign
		}
		// All that counts of it is that it is above 0 and below the least float's half.
		exp, sig = -far, 1
	}
	// Held within far, so that the sums of exponents below can't come round.
	exp = max(-far, min(far, exp))
	lead := bits.LeadingZeros64(sig)
	sig <<= lead
	field := exp - lead + wide - leastExp + 1
	if field > mostField {
		return sign | beyond(way, neg)
	}
	drop := wide
	if field < 1 {
		drop += 1 - field
		field = 1
	}
	// The leading 1 of sig, where it is kept, counts the exponent field on by the one that is left out here.
	amount := uint32(field-1)<<fracBits + uint32(sig>>drop)
	if goesOn(way, neg, sig, drop, more) {
		// Out of all ones this steps into the next exponent, and from the greatest finite float to the infinite one.
		amount++
	}
	return sign | amount
}

// goesOn: does the amount that is left of sig without its last drop bits go on to the next float?
func goesOn(way int, neg bool, sig uint64, drop int, more bool) bool {
	const half = uint64(1) << 63
	rest := uint64(0)
	if drop <= 64 {
		rest = sig << (64 - drop)
	} else {
		// sig lies wholly below the half.
		more = true
	}
	exact := rest == 0 && !more
	switch way {
	case api.Up:
		return !neg && !exact
	case api.Down:
		return neg && !exact
	}
	if rest == half && !more {
		return sig>>drop&1 == 1
	}
	return rest >= half
}

// beyond is the amount that stands for what is 2^128 or more.
func beyond(way int, neg bool) uint32 {
	switch {
	case way == api.Up && neg, way == api.Down && !neg:
		return api.FloatMost
	}
	return api.FloatInf
}
