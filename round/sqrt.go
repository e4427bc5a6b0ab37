package round

import (
	"math/bits"

	"lattice/api"
	"lattice/soft"
)

// SqrtBy is the root, rounded by a way.
func SqrtBy(way int, a uint32) uint32 {
	switch {
	case soft.NaN(a):
		return api.FloatNaN
	case soft.Abs(a) == 0:
		return a
	case below(a):
		return api.FloatNaN
	case soft.Inf(a):
		return a
	}
	x := split(a)
	up := bits.LeadingZeros64(x.sig)
	// The exponent must be even, as the root has half of it.
	up -= (x.exp - up) & 1
	root, more := rootOf(x.sig << up)
	return soft.Round(way, false, (x.exp-up)/2, root, more)
}

// Sqrt is the nearest one.
func Sqrt(a uint32) uint32 { return SqrtBy(api.Nearest, a) }

// rootOf is the greatest whole number whose square is not above n, and whether that square is less.
func rootOf(n uint64) (uint64, bool) {
	root := uint64(0)
	for bit := uint64(1) << 31; bit > 0; bit >>= 1 {
		if next := root | bit; next*next <= n {
			root = next
		}
	}
	return root, root*root != n
}
