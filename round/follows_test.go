package round_test

import (
	"testing"

	"lattice/round"
	"lattice/soft"
)

// oneValue: are they one value, or both no numbers?
func oneValue(a, b uint32) bool {
	if isNaN(a) || isNaN(b) {
		return isNaN(a) && isNaN(b)
	}
	return order(a) == order(b)
}

// P2.6: a fused product by 1 is a sum, and one with the fitting nought a product.
func TestSumsAndProducts(t *testing.T) {
	triples(60000, func(a, b, c uint32) {
		if got, want := round.Fma(a, 0x3F800000, c), soft.Add(a, c); !oneValue(got, want) {
			t.Fatalf("%08X * 1 + %08X: %08X, want %08X", a, c, got, want)
		}
		nought := (a ^ b) & 0x80000000
		if got, want := round.Fma(a, b, nought), soft.Mul(a, b); got != want {
			t.Fatalf("%08X * %08X + %08X: %08X, want %08X", a, b, nought, got, want)
		}
	})
}

// P2.6: no call answers another no number than the one.
func TestOwnCanon(t *testing.T) {
	triples(20000, func(a, b, c uint32) {
		all := []uint32{round.Fma(a, b, c), round.Sqrt(a), round.FromInt(int64(a)<<32 | int64(b)), round.Floor(a), round.Ceil(a),
			round.Even(a), round.Scale(a, int(int32(b))), round.Scale(a, int(int8(b)))}
		for _, way := range ways {
			all = append(all, round.FmaBy(way, a, b, c), round.SqrtBy(way, a), round.FromIntBy(way, int64(a)<<32|int64(b)))
		}
		for i, x := range all {
			if isNaN(x) && x != 0x7FC00000 || soft.Canon(x) != x {
				t.Fatalf("%08X, %08X, %08X: result %d is %08X", a, b, c, i, x)
			}
		}
	})
}

// P2.7: all whole numbers that a float holds without a gap, there and back.
func TestIntsThereAndBack(t *testing.T) {
	for n := int64(-1 << 24); n <= 1<<24; n++ {
		if back := round.ToInt(round.FromInt(n)); back != n {
			t.Fatalf("%d: back %d", n, back)
		}
	}
}

// P2.7: Floor and Ceil about a float, and what one of the three answers is whole.
func TestFloorAndCeil(t *testing.T) {
	check := func(a uint32) {
		low, high, near := round.Floor(a), round.Ceil(a), round.Even(a)
		if isFinite(a) {
			if order(low) > order(a) || order(high) < order(a) {
				t.Fatalf("%08X: Floor %08X, Ceil %08X", a, low, high)
			}
			if (order(low) == order(a)) != (order(high) == order(a)) {
				t.Fatalf("%08X: Floor %08X, Ceil %08X: just one is it", a, low, high)
			}
		}
		for _, x := range []uint32{low, high, near} {
			if round.Floor(x) != x || round.Ceil(x) != x || round.Even(x) != x {
				t.Fatalf("%08X: %08X, of it %08X, %08X, %08X", a, x, round.Floor(x), round.Ceil(x), round.Even(x))
			}
		}
	}
	singles(200000, check)
	atFields(check)
}
