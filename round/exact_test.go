package round_test

import (
	"math"
	"math/big"
	"testing"

	"lattice/api"
	"lattice/seeds"
)

// This file holds what the tests are held against: the chapters' words over rational numbers, and floats to try.

// ways are the three ways to round, and numbers that are none of them.
var ways = []int{api.Nearest, api.Up, api.Down, 3, -1, math.MaxInt, math.MinInt}

// edges are the amounts at which something changes: noughts, exponent field 0, about whole numbers, the greatest, infinite, no numbers.
var edges = []uint32{
	0, 1, 2, 3, 0x400000, 0x7FFFFE, 0x7FFFFF, 0x800000, 0x800001, 0xFFFFFF, 0x1000000, 0x1000001,
	0x1A3504F3, 0x33800000, 0x33800001, 0x3EFFFFFF, 0x3F000000, 0x3F000001, 0x3F7FFFFF, 0x3F800000, 0x3F800001, 0x3FBFFFFF,
	0x3FC00000, 0x3FFFFFFF, 0x40000000, 0x40200000, 0x40400000, 0x40600000, 0x4AFFFFFF, 0x4B000000, 0x4B000001, 0x4B7FFFFF,
	0x4B800000, 0x4B800001, 0x5EFFFFFF, 0x5F000000, 0x5F000001, 0x5F800000, 0x72FFFFFF, 0x73000000, 0x7E800000, 0x7F000000,
	0x7F7FFFFE, 0x7F7FFFFF, 0x7F800000, 0x7F800001, 0x7FBFFFFF, 0x7FC00000, 0x7FFFFFFF,
}

// both are the edges with both signs.
func both() []uint32 {
	var all []uint32
	for _, a := range edges {
		all = append(all, a, a|0x80000000)
	}
	return all
}

// singles calls f with all edges, and with n other floats that are always the same.
func singles(n int, f func(a uint32)) {
	for _, a := range both() {
		f(a)
	}
	s := seed{1}
	for range n {
		f(s.float())
	}
}

// triples calls f with edges three by three, and with n others, the third of which often takes most of the product away.
func triples(n int, f func(a, b, c uint32)) {
	all := both()
	s := seed{2}
	for _, a := range all {
		for _, b := range all {
			for range 6 {
				f(a, b, all[s.Below(len(all))])
			}
			f(a, b, s.near(product(a, b)))
		}
	}
	for range n {
		a := s.float()
		b := s.float()
		f(a, b, s.near(product(a, b)))
		f(a, b, s.float())
	}
}

// product is about a * b, by the machine's floats: only which floats are tried hangs on it.
func product(a, b uint32) uint32 {
	return math.Float32bits(math.Float32frombits(a) * math.Float32frombits(b))
}

// seed tells floats to try beside numbers.
type seed struct{ seeds.Seed }

// float is any float; small, whole and common ones come more often than by chance.
func (s *seed) float() uint32 {
	x := uint32(s.Next())
	switch s.Below(8) {
	case 0:
		return x &^ 0x7F800000
	case 1:
		return x&0x807FFFFF | 0x3F800000
	case 2:
		return x & 0xFF800000
	case 3:
		return x&0x83FFFFFF | 0x3C000000
	case 4:
		return x &^ 0x00000FFF
	case 5:
		return x&0x807FFFFF | uint32(120+s.Below(40))<<23
	}
	return x
}

// near is a float that is often about as great as a, or so much greater or less that few of its bits count.
func (s *seed) near(a uint32) uint32 {
	b := s.float()
	switch s.Below(4) {
	case 0:
		return b&0x807FFFFF | a&0x7F800000
	case 1:
		return b&0x80000000 | (a+uint32(s.Below(64))-32)&0x7FFFFFFF
	case 2:
		return b&0x807FFFFF | (a&0x7F800000-uint32(s.Below(140)-70)<<23)&0x7F800000
	}
	return b
}

func isNaN(a uint32) bool    { return a&0x7FFFFFFF > 0x7F800000 }
func isInf(a uint32) bool    { return a&0x7FFFFFFF == 0x7F800000 }
func isFinite(a uint32) bool { return a&0x7FFFFFFF < 0x7F800000 }
func isNought(a uint32) bool { return a&0x7FFFFFFF == 0 }
func isBelow(a uint32) bool  { return a&0x80000000 != 0 }

func signed(neg bool, a uint32) uint32 {
	if neg {
		return a | 0x80000000
	}
	return a
}

// power is sig * 2^exp.
func power(sig uint64, exp int) *big.Rat {
	n := new(big.Int).SetUint64(sig)
	if exp >= 0 {
		return new(big.Rat).SetInt(n.Lsh(n, uint(exp)))
	}
	return new(big.Rat).SetFrac(n, new(big.Int).Lsh(big.NewInt(1), uint(-exp)))
}

// amount is what the bits weigh without the sign; of the infinite one 2^128, as if the exponents had no upper end.
func amount(a uint32) *big.Rat {
	e, f := int(a>>23&255), uint64(a&0x7FFFFF)
	if e == 0 {
		return power(f, -149)
	}
	return power(1<<23+f, e-150)
}

// value is the amount with the sign.
func value(a uint32) *big.Rat {
	v := amount(a)
	if isBelow(a) {
		v.Neg(v)
	}
	return v
}

// rounded is an amount with a sign, rounded as chapter 1 says it.
func rounded(way int, neg bool, v *big.Rat) uint32 {
	hint, _ := v.Float32()
	return roundedFrom(hint, way, neg, func(x *big.Rat) int { return x.Cmp(v) })
}

// roundedFrom rounds the number that against holds others against; it goes from the hint to the greatest float that is not above it.
func roundedFrom(hint float32, way int, neg bool, against func(x *big.Rat) int) uint32 {
	low := min(math.Float32bits(hint), 0x7F7FFFFF)
	for against(amount(low)) > 0 {
		low--
	}
	for low < 0x7F7FFFFF && against(amount(low+1)) <= 0 {
		low++
	}
	if against(amount(low)) == 0 {
		return signed(neg, low)
	}
	outward := false
	switch way {
	case api.Up:
		outward = !neg
	case api.Down:
		outward = neg
	default:
		middle := new(big.Rat).Add(amount(low), amount(low+1))
		c := against(middle.Quo(middle, big.NewRat(2, 1)))
		outward = c < 0 || c == 0 && low&1 == 1
	}
	if outward {
		low++
	}
	return signed(neg, low)
}

// order is a number by which floats that are numbers stand as their values do; the infinite ones beyond all others.
func order(a uint32) int64 {
	n := int64(a & 0x7FFFFFFF)
	if isBelow(a) {
		return -n
	}
	return n
}

// byWays holds a call against what is wanted by the three ways; any other number in a way's place is as Nearest.
func byWays(t *testing.T, got, want func(way int) uint32, tell func() string) {
	t.Helper()
	told := [3]uint32{want(api.Nearest), want(api.Up), want(api.Down)}
	for _, way := range ways {
		w := told[api.Nearest]
		if way == api.Up || way == api.Down {
			w = told[way]
		}
		if g := got(way); g != w {
			t.Fatalf("way %d of %s: %08X, want %08X", way, tell(), g, w)
		}
	}
}
