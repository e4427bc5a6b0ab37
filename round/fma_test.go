package round_test

import (
	"fmt"
	"math/big"
	"testing"

	"lattice/api"
	"lattice/round"
)

// wantFma is P2.1, word by word.
func wantFma(way int, a, b, c uint32) uint32 {
	neg := isBelow(a) != isBelow(b)
	infinite := isInf(a) || isInf(b)
	switch {
	case isNaN(a) || isNaN(b) || isNaN(c):
		return 0x7FC00000
	case infinite && (isNought(a) || isNought(b)):
		return 0x7FC00000
	case infinite && isInf(c) && isBelow(c) != neg:
		return 0x7FC00000
	case infinite:
		return signed(neg, 0x7F800000)
	case isInf(c):
		return c
	}
	v := new(big.Rat).Mul(value(a), value(b))
	v.Add(v, value(c))
	switch {
	case v.Sign() != 0:
		return rounded(way, v.Sign() < 0, new(big.Rat).Abs(v))
	case (isNought(a) || isNought(b)) && isNought(c) && isBelow(c) == neg:
		return c
	}
	return signed(way == api.Down, 0)
}

func checkFma(t *testing.T, a, b, c uint32) {
	t.Helper()
	byWays(t, func(way int) uint32 { return round.FmaBy(way, a, b, c) },
		func(way int) uint32 { return wantFma(way, a, b, c) },
		func() string { return fmt.Sprintf("%08X * %08X + %08X", a, b, c) })
	if got, want := round.Fma(a, b, c), wantFma(api.Nearest, a, b, c); got != want {
		t.Fatalf("Fma of %08X, %08X, %08X: %08X, want %08X", a, b, c, got, want)
	}
}

// P2.1.
func TestFma(t *testing.T) {
	triples(12000, func(a, b, c uint32) { checkFma(t, a, b, c) })
}

// P2.1: each product of noughts, infinite ones and no numbers with each such third.
func TestFmaOfSpecialOnes(t *testing.T) {
	var few []uint32
	for _, a := range []uint32{0, 1, 0x7FFFFF, 0x3F800000, 0x7F7FFFFF, 0x7F800000, 0x7F800001, 0x7FC00000, 0x7FFFFFFF} {
		few = append(few, a, a|0x80000000)
	}
	for _, a := range few {
		for _, b := range few {
			for _, c := range few {
				checkFma(t, a, b, c)
			}
		}
	}
}

// P2.1: products and thirds of few bits and of many, with all distances between their exponents, so that each bit is lost once.
func TestFmaFarApart(t *testing.T) {
	fracs := []uint32{0, 1, 0x400000, 0x7FFFFF, 0x2AAAAB}
	for _, fa := range fracs {
		for _, fc := range fracs {
			for e := uint32(1); e < 255; e++ {
				checkFma(t, fa|0x3F800000, 0x3F800001, fc|e<<23)
				checkFma(t, fa|0x3F800000, 0x3FFFFFFF, fc|e<<23|0x80000000)
				checkFma(t, fa|e<<23, 0xBF800000|fc, 0x3F800000)
				checkFma(t, fa|e<<23, fc|e<<23, 0xBF800001)
			}
		}
	}
}

// P2.1: ties, and the least that can be beside them; the third takes the whole product away, or all but its last bit.
func TestFmaAtTies(t *testing.T) {
	const half = 0x33800000 // 2^-24, half of the last bit of 1
	for _, tiny := range []uint32{0, 1, 0x80000001, 0x0D800000, 0x8D800000} {
		// 97 * 172961 is 2^24 + 1.
		checkFma(t, 0x42C20000, 0x4828E840, tiny)
		checkFma(t, 0xC2C20000, 0x4828E840, tiny)
		checkFma(t, half, 0x3F800000+tiny&0xFF, 0x3F800000|tiny&0x80000000)
		checkFma(t, half, 0x3F800000+tiny&0xFF, 0x3F800001|tiny&0x80000000)
	}
	s := seed{3}
	for range 4000 {
		a := uint32(s.Next())&0x7FFFFF | uint32(90+s.Below(70))<<23
		b := uint32(s.Next())&0x7FFFFF | uint32(90+s.Below(70))<<23
		for off := range uint32(3) {
			checkFma(t, a, b, (product(a, b)-1+off)^0x80000000)
		}
		checkFma(t, a, 0x3F800000, a|0x80000000)
	}
}
