// Package soft is layer 1: binary32 floats, reckoned by whole numbers alone: see shared/doc/01-soft.md.
package soft

import "lattice/api"

// Where the parts of a float lie in its bits, and what an exponent counts from.
const (
	fracBits = 23
	fracMask = 1<<fracBits - 1
	expMask  = 0xFF
	leastExp = -149 // of the last bit of a float whose exponent field is 0 or 1
)

// The kinds of floats.
const (
	nought = iota
	finite // and no nought
	infinite
	noNumber
)

// number is a finite float taken apart: sig * 2^exp, below 0 if neg.
type number struct {
	neg bool
	exp int
	sig uint64
}

// Canon is a float, but that all that are no numbers are one.
func Canon(a uint32) uint32 {
	if NaN(a) {
		return api.FloatNaN
	}
	return a
}

// NaN: is it no number?
func NaN(a uint32) bool { return kind(a) == noNumber }

// Inf: is it infinite?
func Inf(a uint32) bool { return kind(a) == infinite }

// Neg turns the sign.
func Neg(a uint32) uint32 { return a ^ api.FloatSign }

// Abs takes the sign away.
func Abs(a uint32) uint32 { return a &^ api.FloatSign }

// kind tells which kind of float the bits are.
func kind(a uint32) int {
	exp, frac := a>>fracBits&expMask, a&fracMask
	switch {
	case exp == expMask && frac != 0:
		return noNumber
	case exp == expMask:
		return infinite
	case exp == 0 && frac == 0:
		return nought
	}
	return finite
}

// below: is the sign bit 1?
func below(a uint32) bool { return a>>31 == 1 }

// signBit is the sign as it stands in a float's bits.
func signBit(neg bool) uint32 {
	if neg {
		return api.FloatSign
	}
	return 0
}

// split takes a finite float apart.
func split(a uint32) number {
	exp, frac := a>>fracBits&expMask, uint64(a&fracMask)
	switch exp {
	case 0:
		// No leading 1 is hidden here, and the last bit weighs what it weighs with the field 1.
		return number{neg: below(a), exp: leastExp, sig: frac}
	}
	return number{neg: below(a), exp: leastExp - 1 + int(exp), sig: frac | 1<<fracBits}
}
