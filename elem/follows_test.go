package elem_test

import (
	"testing"

	"lattice/elem"
	"lattice/soft"
)

// P3.8: no call answers another no number than the one.
func TestOwnCanon(t *testing.T) {
	for _, c := range eight() {
		check := func(x uint32) {
			if y := c.call(x); soft.Canon(y) != y {
				t.Fatalf("%s(%08X): %08X", c.name, x, y)
			}
		}
		about(c.parts, check)
		singles(100000, check)
	}
	powers(60000, func(a, b uint32) {
		if y := elem.Pow(a, b); soft.Canon(y) != y {
			t.Fatalf("Pow(%08X, %08X): %08X", a, b, y)
		}
	})
}

// P3.8: Tanh and Erf of a number with its sign turned, bit for bit.
func TestTurnedCurves(t *testing.T) {
	for _, c := range eight()[4:6] {
		check := func(x uint32) {
			if a, b := c.call(x), c.call(soft.Neg(x)); !soft.NaN(x) && b != soft.Neg(a) {
				t.Fatalf("%s(%08X): %08X, turned %08X", c.name, x, a, b)
			}
		}
		about(c.parts, check)
		singles(100000, check)
	}
}

// P3.8: Sin and Cos of a number with its sign turned, bit for bit; but of both noughts P3.3's steps answer the one above 0, so there Sin's answers are one as values alone.
func TestTurnedTurns(t *testing.T) {
	check := func(x uint32) {
		if !soft.Less(soft.Abs(x), 0x53800000) {
			return
		}
		a, b := elem.Sin(x), elem.Sin(soft.Neg(x))
		if b != soft.Neg(a) && (soft.Abs(x) != 0 || soft.Abs(a|b) != 0) {
			t.Fatalf("Sin(%08X): %08X, turned %08X", x, a, b)
		}
		if a, b := elem.Cos(x), elem.Cos(soft.Neg(x)); a != b {
			t.Fatalf("Cos(%08X): %08X, turned %08X", x, a, b)
		}
		if soft.NaN(a) || soft.NaN(elem.Cos(x)) {
			t.Fatalf("%08X: no number", x)
		}
	}
	about(circleParts, check)
	singles(300000, check)
}

// P3.8: where the answers may be, for all numbers; what is none answers the no number.
func TestRanges(t *testing.T) {
	for i, lo := range []uint32{2: mone, 3: mone, 4: mone, 5: mone, 6: 0} {
		if i < 2 {
			continue
		}
		c := eight()[i]
		check := func(x uint32) {
			y := c.call(x)
			if y != nan && (soft.Less(y, lo) || soft.Less(one, y)) {
				t.Fatalf("%s(%08X): %08X", c.name, x, y)
			}
			if y == nan && i > 3 && !soft.NaN(x) {
				t.Fatalf("%s(%08X): no number", c.name, x)
			}
		}
		about(c.parts, check)
		singles(100000, check)
	}
}
