package round_test

import (
	"fmt"
	"math"
	"math/big"
	"testing"

	"lattice/api"
	"lattice/round"
)

// ints calls f with the outermost whole numbers, those about all powers of two, and n others of all lengths.
func ints(n int, f func(n int64)) {
	for bit := range 64 {
		for off := int64(-3); off <= 3; off++ {
			f(int64(1)<<bit + off)
			f(-(int64(1) << bit) + off)
			f(int64(3)<<bit + off)
		}
	}
	for _, n := range []int64{0, math.MinInt64, math.MinInt64 + 1, math.MaxInt64, math.MaxInt64 - 1} {
		f(n)
	}
	s := seed{4}
	for range n {
		// Shifted there and back, so that ties come about.
		k := s.Below(64)
		f(int64(s.Next()>>k) << s.Below(k+1))
		f(int64(s.Next()) >> k)
	}
}

// P2.3: FromIntBy and FromInt.
func TestFromInt(t *testing.T) {
	ints(20000, func(n int64) {
		v := new(big.Rat).SetInt64(n)
		v.Abs(v)
		want := func(way int) uint32 {
			if n == 0 {
				return 0
			}
			return rounded(way, n < 0, v)
		}
		byWays(t, func(way int) uint32 { return round.FromIntBy(way, n) }, want, func() string { return fmt.Sprint(n) })
		if got := round.FromInt(n); got != want(api.Nearest) {
			t.Fatalf("FromInt(%d): %08X, want %08X", n, got, want(api.Nearest))
		}
	})
}

// wantInt is P2.3's ToInt.
func wantInt(a uint32) int64 {
	if isNaN(a) {
		return 0
	}
	v := value(a)
	n := new(big.Int).Quo(v.Num(), v.Denom())
	switch {
	case n.IsInt64():
		return n.Int64()
	case n.Sign() < 0:
		return math.MinInt64
	}
	return math.MaxInt64
}

// P2.3: ToInt.
func TestToInt(t *testing.T) {
	check := func(a uint32) {
		if got := round.ToInt(a); got != wantInt(a) {
			t.Fatalf("ToInt(%08X): %d, want %d", a, got, wantInt(a))
		}
	}
	singles(100000, check)
	atFields(check)
}

// atFields calls f with floats of all exponent fields and both signs, such as have one broken bit among them.
func atFields(f func(a uint32)) {
	for e := range uint32(256) {
		for bit := range 24 {
			for _, frac := range []uint32{1 << bit, 1<<bit - 1, 1<<bit + 1, 3 << bit, 0x7FFFFF &^ (1 << bit), 0x7FFFFF &^ (1<<bit - 1)} {
				f(e<<23 | frac&0x7FFFFF)
				f(e<<23 | frac&0x7FFFFF | 0x80000000)
			}
		}
	}
}

// wantWhole is P2.4: the whole number by Down, Up or Nearest.
func wantWhole(way int, a uint32) uint32 {
	switch {
	case isNaN(a):
		return 0x7FC00000
	case isInf(a) || isNought(a):
		return a
	}
	v := value(a)
	n := new(big.Int)
	// Of a divisor above 0 Euclid's quotient is the greatest whole number not above.
	n.Div(v.Num(), v.Denom())
	rest := new(big.Rat).Sub(v, new(big.Rat).SetInt(n))
	up := false
	switch half := rest.Cmp(big.NewRat(1, 2)); way {
	case api.Up:
		up = rest.Sign() > 0
	case api.Nearest:
		up = half > 0 || half == 0 && n.Bit(0) == 1
	}
	if up {
		n.Add(n, big.NewInt(1))
	}
	return rounded(api.Nearest, isBelow(a), new(big.Rat).SetInt(n.Abs(n)))
}

// P2.4.
func TestWhole(t *testing.T) {
	check := func(a uint32) {
		for _, c := range []struct {
			name      string
			got, want uint32
		}{
			{"Floor", round.Floor(a), wantWhole(api.Down, a)},
			{"Ceil", round.Ceil(a), wantWhole(api.Up, a)},
			{"Even", round.Even(a), wantWhole(api.Nearest, a)},
		} {
			if c.got != c.want {
				t.Fatalf("%s(%08X): %08X, want %08X", c.name, a, c.got, c.want)
			}
		}
	}
	singles(40000, check)
	atFields(check)
	for n := range uint32(40) {
		// Halves, and what is next to them.
		half := math.Float32bits(float32(n) + 0.5)
		for off := range uint32(3) {
			check(half - 1 + off)
			check(half - 1 + off | 0x80000000)
		}
	}
}

// wantScale is P2.5, for k that a rational number can be made of.
func wantScale(a uint32, k int) uint32 {
	switch {
	case isNaN(a):
		return 0x7FC00000
	case isInf(a) || isNought(a):
		return a
	}
	return rounded(api.Nearest, isBelow(a), new(big.Rat).Mul(amount(a), power(1, k)))
}

// P2.5.
func TestScale(t *testing.T) {
	check := func(a uint32, k int) {
		if got, want := round.Scale(a, k), wantScale(a, k); got != want {
			t.Fatalf("Scale(%08X, %d): %08X, want %08X", a, k, got, want)
		}
	}
	for _, a := range both() {
		for k := -330; k <= 330; k++ {
			check(a, k)
		}
	}
	s := seed{5}
	for range 40000 {
		a := s.float()
		check(a, s.Below(600)-300)
		// To about the least floats, where bits are lost.
		check(a, s.Below(30)-15-int(a>>23&255))
	}
}

// P2.5: any int may be a power; nothing comes round.
func TestScaleByAnyInt(t *testing.T) {
	for _, k := range []int{400, 999, 1000, 1001, 1 << 31, 1 << 32, 1<<32 - 1, 1 << 62, math.MaxInt - 1000, math.MaxInt - 1, math.MaxInt} {
		for _, a := range both() {
			up, down := a&0x80000000|0x7F800000, a&0x80000000
			switch {
			case isNaN(a):
				up, down = 0x7FC00000, 0x7FC00000
			case isInf(a) || isNought(a):
				up, down = a, a
			}
			if got := round.Scale(a, k); got != up {
				t.Fatalf("Scale(%08X, %d): %08X, want %08X", a, k, got, up)
			}
			for _, low := range []int{-k, -k - 1} {
				if got := round.Scale(a, low); got != down {
					t.Fatalf("Scale(%08X, %d): %08X, want %08X", a, low, got, down)
				}
			}
		}
	}
}
