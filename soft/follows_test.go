package soft_test

import (
	"testing"

	"lattice/api"
	"lattice/soft"
)

type byWay func(way int, a, b uint32) uint32

// P1.8: Add and Mul changed about, and the difference of a float and itself.
func TestChangedAbout(t *testing.T) {
	pairs(200000, func(a, b uint32) {
		if soft.Add(a, b) != soft.Add(b, a) || soft.Mul(a, b) != soft.Mul(b, a) {
			t.Fatalf("%08X, %08X changed about", a, b)
		}
		if isFinite(a) && soft.Sub(a, a) != 0 {
			t.Fatalf("Sub(%08X, %08X): %08X", a, a, soft.Sub(a, a))
		}
	})
}

// P1.8: no call but Neg and Abs answers another no number than the one.
func TestOwnCanon(t *testing.T) {
	pairs(60000, func(a, b uint32) {
		all := []uint32{soft.Canon(a), soft.Add(a, b), soft.Sub(a, b), soft.Mul(a, b), soft.Div(a, b), soft.Min(a, b), soft.Max(a, b)}
		for _, way := range ways {
			all = append(all, soft.AddBy(way, a, b), soft.MulBy(way, a, b), soft.DivBy(way, a, b),
				soft.Round(way, isBelow(a), int(int32(b)), uint64(a)<<32|uint64(b), b&1 == 1))
		}
		for i, c := range all {
			if isNaN(c) && c != 0x7FC00000 || soft.Canon(c) != c {
				t.Fatalf("%08X, %08X: result %d is %08X", a, b, i, c)
			}
		}
	})
}

// inOrder: is Down not greater than Nearest, that not greater than Up, and are the outer ones one value or neighbours?
func inOrder(down, near, up uint32) bool {
	if isNaN(down) || isNaN(near) || isNaN(up) {
		return down == near && near == up
	}
	return order(down) <= order(near) && order(near) <= order(up) && order(up)-order(down) <= 1
}

// P1.9.
func TestWaysInOrder(t *testing.T) {
	pairs(100000, func(a, b uint32) {
		for i, by := range []byWay{soft.AddBy, soft.MulBy, soft.DivBy} {
			down, near, up := by(api.Down, a, b), by(api.Nearest, a, b), by(api.Up, a, b)
			if !inOrder(down, near, up) {
				t.Fatalf("call %d of %08X, %08X: %08X, %08X, %08X", i, a, b, down, near, up)
			}
		}
	})
	s := seed{5}
	for range 100000 {
		neg, exp, sig, more := s.Below(2) == 1, s.Below(420)-240, s.Next()>>s.Below(64), s.Below(2) == 1
		down, near, up := soft.Round(api.Down, neg, exp, sig, more), soft.Round(api.Nearest, neg, exp, sig, more), soft.Round(api.Up, neg, exp, sig, more)
		if !inOrder(down, near, up) {
			t.Fatalf("Round(%v, %d, %#x, %v): %08X, %08X, %08X", neg, exp, sig, more, down, near, up)
		}
	}
}

// P1.10: pairs as the promise has them, from all over the floats, the outermost ones among them.
func TestVeryDifference(t *testing.T) {
	tried := 0
	check := func(a, b uint32) {
		if !isFinite(a) || !isFinite(b) || isBelow(a) != isBelow(b) || !within(a, b) || !within(b, a) {
			return
		}
		tried++
		d := soft.Sub(a, b)
		if back := soft.Add(d, b); order(back) != order(a) {
			t.Fatalf("%08X - %08X: %08X, and back %08X", a, b, d, back)
		}
		if want := value(a); want.Sub(want, value(b)).Cmp(value(d)) != 0 {
			t.Fatalf("%08X - %08X: %08X is not the very difference", a, b, d)
		}
	}
	pairs(40000, check)
	s := seed{6}
	for range 20000 {
		a := s.float()
		check(a, a&0x80000000|(a+uint32(s.Below(1<<24))-1<<23)&0x7FFFFFFF)
		check(a, a+0x00800000)
	}
	if tried < 10000 {
		t.Fatalf("only %d pairs were such", tried)
	}
}

// within: is b at most twice a in amount?
func within(a, b uint32) bool {
	twice := amount(a)
	return amount(b).Cmp(twice.Add(twice, twice)) <= 0
}

// P1.11.
func TestOrderKept(t *testing.T) {
	s := seed{7}
	pairs(200000, func(a, b uint32) {
		if !soft.Less(a, b) {
			a, b = b, a
		}
		if !soft.Less(a, b) {
			return
		}
		for _, c := range []uint32{s.float(), s.near(a), soft.Neg(a), soft.Neg(b)} {
			if soft.Less(soft.Add(b, c), soft.Add(a, c)) {
				t.Fatalf("%08X is less than %08X, but not with %08X added", a, b, c)
			}
		}
	})
}
