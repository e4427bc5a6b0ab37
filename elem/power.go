package elem

import (
	"lattice/api"
	"lattice/round"
	"lattice/soft"
)

const (
	// Beyond these e to the power of x is above all finite floats, or less than half the least one.
	expMost  = 0x42B17217
	expLeast = 0xC2D00000

	perLn2 = 0x3FB8AA3B // 1 / ln 2

	// ln 2 in two parts; the high one has so few bits that nothing is lost of what its multiples leave.
	ln2High      = 0x3F318000
	ln2Low       = 0xB95E8083
	minusLn2High = 0xBF318000
	minusLn2Low  = 0x395E8083
)

// Where the exponent field lies in a float's bits, and what is in it of floats from 1/2 to 1.
const (
	fieldAt   = 23
	fieldMask = 0xFF
	halfField = 126
	lift      = 24 // powers of two by which a float with the field 0 comes to have another one
	rootHalf  = 0x3F3504F3
)

// oddEnd is 2^24: no float from there on is odd.
const oddEnd = 0x4B800000

// Exp is e to the power of x.
func Exp(x uint32) uint32 {
	switch {
	case soft.NaN(x):
		return api.FloatNaN
	case soft.Less(expMost, x):
		return api.FloatInf
	case soft.Less(x, expLeast):
		return 0
	}
	k := round.Even(soft.Mul(x, perLn2))
	r := round.Fma(k, minusLn2Low, round.Fma(k, minusLn2High, x))
	p := row(r, 0x3AB60B61, 0x3C088889, 0x3D2AAAAB, 0x3E2AAAAB, 0x3F000000, one, one)
	return round.Scale(p, int(round.ToInt(k)))
}

// Log is the natural logarithm.
func Log(x uint32) uint32 {
	switch {
	case soft.NaN(x) || soft.Less(x, 0):
		return api.FloatNaN
	case nought(x):
		return api.FloatSign | api.FloatInf
	case soft.Inf(x):
		return x
	}
	m, e := apart(x)
	f := soft.Sub(m, one)
	s := soft.Div(f, soft.Add(f, two))
	p := row(soft.Mul(s, s), 0x3E638E39, 0x3E924925, 0x3ECCCCCD, 0x3F2AAAAB, two)
	l := soft.Mul(s, p)
	k := round.FromInt(e)
	return round.Fma(k, ln2High, round.Fma(k, ln2Low, l))
}

// apart takes a finite float above 0 apart into m * 2^e, with m about 1: from the root of 1/2 to that of 2.
func apart(x uint32) (m uint32, e int64) {
	if field(x) == 0 {
		x, e = round.Scale(x, lift), -lift
	}
	e += int64(field(x)) - halfField
	m = x&^(fieldMask<<fieldAt) | halfField<<fieldAt
	if soft.Less(m, rootHalf) {
		m, e = soft.Add(m, m), e-1
	}
	return m, e
}

// field is the exponent field.
func field(x uint32) uint32 { return x >> fieldAt & fieldMask }

// Pow is a to the power of b.
func Pow(a, b uint32) uint32 {
	switch {
	case nought(b) || a == one:
		return one
	case soft.NaN(a) || soft.NaN(b):
		return api.FloatNaN
	case a == minusOne && soft.Inf(b):
		return one
	case soft.Less(a, 0) && finite(b) && !whole(b):
		return api.FloatNaN
	}
	y := Exp(soft.Mul(b, Log(soft.Abs(a))))
	if below(a) && odd(b) {
		return soft.Neg(y)
	}
	return y
}

// whole: has it no broken part?
func whole(b uint32) bool { return soft.Equal(round.Even(b), b) }

// odd: is it an odd whole number?
func odd(b uint32) bool {
	return finite(b) && whole(b) && soft.Less(soft.Abs(b), oddEnd) && round.ToInt(b)&1 == 1
}
