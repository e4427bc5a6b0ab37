package round

import (
	"math"

	"lattice/api"
	"lattice/soft"
)

const (
	// far is a power beyond which nothing changes any more: each float but the noughts times 2^far is above all, times 2^-far below them.
	far = 1000
	// intBits is how many bits an amount may have that an int64 holds with any sign.
	intBits = 63
	// deep is by how many bits a float's word may go down, so that it is less than half a whole one, and no shift comes round.
	deep = 62
)

// FromIntBy is a whole number, rounded by a way.
func FromIntBy(way int, n int64) uint32 {
	amount := uint64(n)
	if n < 0 {
		// Turned as a uint64, as the least int64 has no other sign.
		amount = -amount
	}
	return soft.Round(way, n < 0, 0, amount, false)
}

// FromInt is the nearest float to a whole number.
func FromInt(n int64) uint32 { return FromIntBy(api.Nearest, n) }

// ToInt is what is left of a float without its broken part.
func ToInt(a uint32) int64 {
	x := split(a)
	switch {
	case soft.NaN(a):
		return 0
	case x.exp >= intBits-fracBits && x.neg:
		return math.MinInt64
	case x.exp >= intBits-fracBits:
		return math.MaxInt64
	}
	n := int64(x.sig << max(x.exp, 0) >> max(-x.exp, 0))
	if x.neg {
		return -n
	}
	return n
}

// Floor is the greatest whole float that is not above a.
func Floor(a uint32) uint32 { return whole(api.Down, a) }

// Ceil is the least whole float that is not below a.
func Ceil(a uint32) uint32 { return whole(api.Up, a) }

// Even is the whole float that is nearest to a, of two the even one.
func Even(a uint32) uint32 { return whole(api.Nearest, a) }

// Scale is a times 2 to the k.
func Scale(a uint32, k int) uint32 {
	if soft.NaN(a) || soft.Inf(a) {
		return soft.Canon(a)
	}
	x := split(a)
	// Held within far, so that the sum can't come round.
	return soft.Round(api.Nearest, x.neg, x.exp+max(-far, min(far, k)), x.sig, false)
}

// whole is the whole number that a is rounded to by a way; its sign stays, also where nothing else is left.
func whole(way int, a uint32) uint32 {
	if soft.NaN(a) {
		return api.FloatNaN
	}
	x := split(a)
	if x.exp >= 0 {
		return a
	}
	drop := min(-x.exp, deep)
	n := x.sig >> drop
	if goesOn(way, x.neg, n, x.sig-n<<drop, 1<<(drop-1)) {
		n++
	}
	return soft.Round(api.Nearest, x.neg, 0, n, false)
}

// goesOn: does the amount n, with a rest of which half is the middle, go on to the next whole one?
func goesOn(way int, neg bool, n, rest, half uint64) bool {
	switch way {
	case api.Up:
		return !neg && rest != 0
	case api.Down:
		return neg && rest != 0
	}
	return rest > half || rest == half && n&1 == 1
}
