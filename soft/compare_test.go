package soft_test

import (
	"math"
	"testing"

	"lattice/soft"
)

// P1.6.
func TestLooking(t *testing.T) {
	check := func(a uint32) {
		canon := a
		if isNaN(a) {
			canon = 0x7FC00000
		}
		if soft.Canon(a) != canon || soft.NaN(a) != isNaN(a) || soft.Inf(a) != isInf(a) {
			t.Fatalf("%08X: Canon %08X, NaN %v, Inf %v", a, soft.Canon(a), soft.NaN(a), soft.Inf(a))
		}
		if soft.Neg(a) != a^0x80000000 || soft.Abs(a) != a&0x7FFFFFFF {
			t.Fatalf("%08X: Neg %08X, Abs %08X", a, soft.Neg(a), soft.Abs(a))
		}
	}
	for _, a := range both() {
		check(a)
	}
	s := seed{4}
	for range 200000 {
		check(s.float())
	}
}

// P1.7: Less and Equal, held against the machine's own floats.
func TestComparing(t *testing.T) {
	pairs(200000, func(a, b uint32) {
		x, y := math.Float32frombits(a), math.Float32frombits(b)
		if soft.Less(a, b) != (x < y) || soft.Equal(a, b) != (x == y) {
			t.Fatalf("%08X, %08X: Less %v, Equal %v", a, b, soft.Less(a, b), soft.Equal(a, b))
		}
	})
}

// P1.7: Min and Max; of noughts the order is that of the signs.
func TestMinMax(t *testing.T) {
	pairs(200000, func(a, b uint32) {
		lo, hi := a, b
		switch {
		case isNaN(a) || isNaN(b):
			lo, hi = 0x7FC00000, 0x7FC00000
		case order(b) < order(a), order(a) == order(b) && isBelow(b):
			lo, hi = b, a
		}
		if soft.Min(a, b) != lo || soft.Max(a, b) != hi {
			t.Fatalf("%08X, %08X: Min %08X, Max %08X, want %08X, %08X", a, b, soft.Min(a, b), soft.Max(a, b), lo, hi)
		}
	})
}
