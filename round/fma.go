package round

import (
	"math/bits"

	"lattice/api"
	"lattice/soft"
)

// wide is a whole number in two words.
type wide struct{ high, low uint64 }

// FmaBy is a * b + c, rounded once, by a way.
func FmaBy(way int, a, b, c uint32) uint32 {
	product := soft.MulBy(way, a, b)
	boundless := soft.Inf(a) || soft.Inf(b)
	switch {
	case soft.NaN(product) || soft.NaN(c):
		return api.FloatNaN
	case boundless && soft.Inf(c) && c != product:
		return api.FloatNaN
	case boundless:
		return product
	case soft.Inf(c):
		return c
	}
	x, y, z := split(a), split(b), split(c)
	// 48 bits at most, so that one word holds the very product.
	p := number{neg: x.neg != y.neg, exp: x.exp + y.exp, sig: x.sig * y.sig}
	switch {
	case p.sig == 0 && z.sig == 0 && p.neg != z.neg:
		return noughtBy(way)
	case p.sig == 0:
		return c
	case z.sig == 0:
		return product
	}
	return sum(way, topped(p), topped(z))
}

// Fma is the nearest one.
func Fma(a, b, c uint32) uint32 { return FmaBy(api.Nearest, a, b, c) }

// topped shifts a number that is not 0 until its first bit is the word's second one, so that a sum of two such fits.
func topped(x number) number {
	up := bits.LeadingZeros64(x.sig) - 1
	return number{neg: x.neg, exp: x.exp - up, sig: x.sig << up}
}

// sum adds two topped numbers: the greater one stands in the high word, the lesser one goes down into the low one.
func sum(way int, x, y number) uint32 {
	if x.exp < y.exp || x.exp == y.exp && x.sig < y.sig {
		x, y = y, x
	}
	great := wide{high: x.sig}
	small, more := lowered(y.sig, x.exp-y.exp)
	if x.neg == y.neg {
		return narrow(way, x.neg, x.exp, great.plus(small), more)
	}
	if more {
		// What is lost is taken away as a whole one; the rest of that one is left over.
		small = small.plus(wide{low: 1})
	}
	rest := great.minus(small)
	if rest == (wide{}) {
		return noughtBy(way)
	}
	return narrow(way, x.neg, x.exp, rest, more)
}

// lowered lays a word into two, n bits below the high one, and tells whether any bits that are lost were 1.
func lowered(sig uint64, n int) (wide, bool) {
	// Beyond that all is lost alike.
	n = min(n, 128)
	if n < 64 {
		return wide{high: sig >> n, low: sig << (64 - n)}, false
	}
	return wide{low: sig >> (n - 64)}, sig<<(128-n) != 0
}

func (w wide) plus(v wide) wide {
	low, carry := bits.Add64(w.low, v.low, 0)
	high, _ := bits.Add64(w.high, v.high, carry)
	return wide{high, low}
}

func (w wide) minus(v wide) wide {
	low, borrow := bits.Sub64(w.low, v.low, 0)
	high, _ := bits.Sub64(w.high, v.high, borrow)
	return wide{high, low}
}

// narrow rounds two words, whose high one weighs 2^exp; the first 64 bits are enough, with whether there is more.
func narrow(way int, neg bool, exp int, w wide, more bool) uint32 {
	lead := bits.LeadingZeros64(w.high)
	sig := w.high<<lead | w.low>>(64-lead)
	return soft.Round(way, neg, exp-lead, sig, more || w.low<<lead != 0)
}
