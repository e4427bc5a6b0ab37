package soft_test

import (
	"math"
	"math/big"
	"sort"

	"lattice/api"
	"lattice/seeds"
)

// This file holds what the tests are held against: the chapter's words over rational numbers, and floats to try.

// ways are the three ways to round, and numbers that are none of them.
var ways = []int{api.Nearest, api.Up, api.Down, 3, -1, math.MaxInt, math.MinInt}

// edges are the amounts at which something changes.
var edges = []uint32{
	0, 1, 2, 3, 0x400000, 0x7FFFFE, 0x7FFFFF, 0x800000, 0x800001, 0xFFFFFF, 0x1000000, 0x1000001,
	0x1A3504F3, 0x33800000, 0x33800001, 0x34000000, 0x3E800000, 0x3F000000, 0x3F7FFFFF, 0x3F800000, 0x3F800001,
	0x3FFFFFFF, 0x40000000, 0x40400000, 0x4B7FFFFF, 0x4B800000, 0x5F000000, 0x72FFFFFF, 0x73000000, 0x7E800000,
	0x7EFFFFFF, 0x7F000000, 0x7F7FFFFE, 0x7F7FFFFF, 0x7F800000, 0x7F800001, 0x7FBFFFFF, 0x7FC00000, 0x7FFFFFFF,
}

// both are the edges with both signs.
func both() []uint32 {
	var all []uint32
	for _, a := range edges {
		all = append(all, a, a|0x80000000)
	}
	return all
}

// pairs calls f with all pairs of edges, and with n other pairs that are always the same.
func pairs(n int, f func(a, b uint32)) {
	for _, a := range both() {
		for _, b := range both() {
			f(a, b)
		}
	}
	s := seed{1}
	for range n {
		a := s.float()
		f(a, s.near(a))
	}
}

// seed tells floats to try beside numbers.
type seed struct{ seeds.Seed }

// float is any float; small, whole and common ones come more often than by chance.
func (s *seed) float() uint32 {
	x := uint32(s.Next())
	switch s.Below(8) {
	case 0:
		return x &^ 0x7F800000
	case 1:
		return x&0x807FFFFF | 0x3F800000
	case 2:
		return x & 0xFF800000
	case 3:
		return x&0x83FFFFFF | 0x3C000000
	case 4:
		return x &^ 0x00000FFF
	}
	return x
}

// near is a float that is often about as great as a.
func (s *seed) near(a uint32) uint32 {
	b := s.float()
	switch s.Below(4) {
	case 0:
		return b&0x807FFFFF | a&0x7F800000
	case 1:
		return b&0x80000000 | (a+uint32(s.Below(64))-32)&0x7FFFFFFF
	case 2:
		return b&0x807FFFFF | (a&0x7F800000-uint32(s.Below(30))<<23)&0x7F800000
	}
	return b
}

func isNaN(a uint32) bool    { return a&0x7FFFFFFF > 0x7F800000 }
func isInf(a uint32) bool    { return a&0x7FFFFFFF == 0x7F800000 }
func isFinite(a uint32) bool { return a&0x7FFFFFFF < 0x7F800000 }
func isNought(a uint32) bool { return a&0x7FFFFFFF == 0 }
func isBelow(a uint32) bool  { return a&0x80000000 != 0 }

func signed(neg bool, a uint32) uint32 {
	if neg {
		return a | 0x80000000
	}
	return a
}

// power is sig * 2^exp.
func power(sig uint64, exp int) *big.Rat {
	n := new(big.Int).SetUint64(sig)
	if exp >= 0 {
		return new(big.Rat).SetInt(n.Lsh(n, uint(exp)))
	}
	return new(big.Rat).SetFrac(n, new(big.Int).Lsh(big.NewInt(1), uint(-exp)))
}

// amount is what the bits weigh without the sign; of the infinite one 2^128, as if the exponents had no upper end.
func amount(a uint32) *big.Rat {
	e, f := int(a>>23&255), uint64(a&0x7FFFFF)
	if e == 0 {
		return power(f, -149)
	}
	return power(1<<23+f, e-150)
}

// value is the amount with the sign.
func value(a uint32) *big.Rat {
	v := amount(a)
	if isBelow(a) {
		v.Neg(v)
	}
	return v
}

// rounded is an amount with a sign, rounded as the chapter says it: by a search among all floats.
func rounded(way int, neg bool, v *big.Rat) uint32 {
	above := sort.Search(0x7F800000, func(i int) bool { return amount(uint32(i)).Cmp(v) > 0 })
	low := uint32(above - 1)
	if amount(low).Cmp(v) == 0 {
		return signed(neg, low)
	}
	outward := false
	switch way {
	case api.Up:
		outward = !neg
	case api.Down:
		outward = neg
	default:
		middle := new(big.Rat).Add(amount(low), amount(low+1))
		middle.Quo(middle, big.NewRat(2, 1))
		c := v.Cmp(middle)
		outward = c > 0 || c == 0 && low&1 == 1
	}
	if outward {
		low++
	}
	return signed(neg, low)
}

// roundedValue is a number that is not 0, rounded.
func roundedValue(way int, v *big.Rat) uint32 {
	return rounded(way, v.Sign() < 0, new(big.Rat).Abs(v))
}

func wantAdd(way int, a, b uint32) uint32 {
	switch {
	case isNaN(a) || isNaN(b):
		return 0x7FC00000
	case isInf(a) && isInf(b):
		if a == b {
			return a
		}
		return 0x7FC00000
	case isInf(a):
		return a
	case isInf(b):
		return b
	}
	v := new(big.Rat).Add(value(a), value(b))
	switch {
	case v.Sign() != 0:
		return roundedValue(way, v)
	case isNought(a) && a == b:
		return a
	}
	return signed(way == api.Down, 0)
}

func wantMul(way int, a, b uint32) uint32 {
	neg := isBelow(a) != isBelow(b)
	switch {
	case isNaN(a) || isNaN(b), isInf(a) && isNought(b), isNought(a) && isInf(b):
		return 0x7FC00000
	case isInf(a) || isInf(b):
		return signed(neg, 0x7F800000)
	}
	return rounded(way, neg, new(big.Rat).Mul(amount(a), amount(b)))
}

func wantDiv(way int, a, b uint32) uint32 {
	neg := isBelow(a) != isBelow(b)
	switch {
	case isNaN(a) || isNaN(b), isInf(a) && isInf(b), isNought(a) && isNought(b):
		return 0x7FC00000
	case isInf(a) || isNought(b):
		return signed(neg, 0x7F800000)
	case isInf(b) || isNought(a):
		return signed(neg, 0)
	}
	return rounded(way, neg, new(big.Rat).Quo(amount(a), amount(b)))
}

// order is a number by which floats that are numbers stand as their values do; the infinite ones beyond all others.
func order(a uint32) int64 {
	n := int64(a & 0x7FFFFFFF)
	if isBelow(a) {
		return -n
	}
	return n
}
