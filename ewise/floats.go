package ewise

import (
	"lattice/api"
	"lattice/elem"
	"lattice/soft"
)

const (
	minusOne = api.FloatSign | api.FloatOne

	// Where the parts of a float lie in its bits, and the power of two that the last bit of the least ones weighs.
	fracBits = 23
	fracMask = 1<<fracBits - 1
	expMask  = 0xFF
	leastExp = -149

	// shift is by how many bits 24 bits may go up in a word.
	shift = 64 - 1 - fracBits
)

// isLow: is the sign bit 1?
func isLow(a uint32) bool { return a&api.FloatSign != 0 }

// floatSign is -1, 0 or 1.
func floatSign(a uint32) uint32 {
	switch {
	case soft.NaN(a):
		return api.FloatNaN
	case soft.Less(a, 0):
		return minusOne
	case soft.Less(0, a):
		return api.FloatOne
	}
	return 0
}

// leaky is a, but a part of it below 0.
func leaky(a, part uint32) uint32 {
	if soft.Less(a, 0) {
		return soft.Mul(part, a)
	}
	return a
}

// elu is a, but below 0 it goes down to -alpha.
func elu(a, alpha uint32) uint32 {
	if soft.Less(a, 0) {
		return soft.Mul(alpha, soft.Sub(elem.Exp(a), api.FloatOne))
	}
	return a
}

// atMost: is a less than b, or the same?
func atMost(a, b uint32) bool { return soft.Less(a, b) || soft.Equal(a, b) }

// floatRest is what is left of a, if b is taken away as often as it goes into it.
func floatRest(a, b uint32) uint32 {
	switch {
	case soft.NaN(a) || soft.NaN(b) || soft.Inf(a) || soft.Abs(b) == 0:
		return api.FloatNaN
	case soft.Less(soft.Abs(a), soft.Abs(b)):
		// So of all b that are infinite, too.
		return a
	}
	sig, exp := apart(a)
	by, end := apart(b)
	rest := sig % by
	// As a is not below b in amount, its exponent isn't either. Bit by bit the rest would go up; each step takes as many as the word has room for.
	for exp > end {
		step := min(exp-end, shift)
		rest = rest << step % by
		exp -= step
	}
	return soft.Round(api.Nearest, isLow(a), end, rest, false)
}

// apart tells the amount of a finite float: sig * 2^exp.
func apart(a uint32) (sig uint64, exp int) {
	sig, exp = uint64(a&fracMask), int(a>>fracBits&expMask)
	if exp == 0 {
		return sig, leastExp
	}
	return sig | 1<<fracBits, leastExp + exp - 1
}
