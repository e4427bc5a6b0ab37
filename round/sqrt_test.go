package round_test

import (
	"fmt"
	"math"
	"math/big"
	"testing"

	"lattice/api"
	"lattice/round"
	"lattice/soft"
)

// wantSqrt is P2.2: the root is the number whose square is a's value.
func wantSqrt(way int, a uint32) uint32 {
	switch {
	case isNaN(a), isBelow(a) && !isNought(a):
		return 0x7FC00000
	case isNought(a) || isInf(a):
		return a
	}
	v := value(a)
	hint := float32(math.Sqrt(float64(math.Float32frombits(a))))
	return roundedFrom(hint, way, false, func(x *big.Rat) int { return new(big.Rat).Mul(x, x).Cmp(v) })
}

func checkSqrt(t *testing.T, a uint32) {
	t.Helper()
	byWays(t, func(way int) uint32 { return round.SqrtBy(way, a) },
		func(way int) uint32 { return wantSqrt(way, a) },
		func() string { return fmt.Sprintf("the root of %08X", a) })
	if got, want := round.Sqrt(a), wantSqrt(api.Nearest, a); got != want {
		t.Fatalf("Sqrt of %08X: %08X, want %08X", a, got, want)
	}
}

// P2.2.
func TestSqrt(t *testing.T) {
	singles(20000, func(a uint32) { checkSqrt(t, a) })
}

// P2.2: at all exponents, those of the field 0 too, the least and the greatest floats and some squares.
func TestSqrtAtAllExponents(t *testing.T) {
	for e := range uint32(256) {
		for _, frac := range []uint32{0, 1, 2, 0x100000, 0x400000, 0x7FFFFE, 0x7FFFFF} {
			checkSqrt(t, e<<23|frac)
			checkSqrt(t, e<<23|frac|0x80000000)
		}
	}
	for bit := range 23 {
		checkSqrt(t, 1<<bit)
		checkSqrt(t, 1<<bit|1)
	}
}

// P2.2: very squares have their very roots, by every way.
func TestSqrtOfSquares(t *testing.T) {
	for n := uint32(1); n < 4096; n++ {
		for _, k := range []int{0, -10, 24, -40, 50} {
			root := round.Scale(round.FromInt(int64(n)), k)
			square := soft.Mul(root, root)
			for _, way := range ways {
				if got := round.SqrtBy(way, square); got != root {
					t.Fatalf("way %d of %08X: %08X, want %08X", way, square, got, root)
				}
			}
		}
	}
}

// P2.8: the squares of the roots by Down and Up.
func TestSquaresOfRoots(t *testing.T) {
	singles(200000, func(a uint32) {
		a &= 0x7FFFFFFF
		if isNought(a) || !isFinite(a) {
			return
		}
		low, high := round.SqrtBy(api.Down, a), round.SqrtBy(api.Up, a)
		if soft.Less(a, soft.MulBy(api.Down, low, low)) || soft.Less(soft.MulBy(api.Up, high, high), a) {
			t.Fatalf("%08X: %08X and %08X", a, low, high)
		}
	})
}

// P2.8: whole floats and their squares.
func TestRootsOfWholeSquares(t *testing.T) {
	for n := range int64(4097) {
		a := math.Float32bits(float32(n))
		if got := round.Sqrt(soft.Mul(a, a)); got != a {
			t.Fatalf("Sqrt of the square of %d: %08X, want %08X", n, got, a)
		}
	}
}
