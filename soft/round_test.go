package soft_test

import (
	"math"
	"math/big"
	"testing"

	"lattice/api"
	"lattice/soft"
)

// tiny is what more adds: less than all that any other number of these tests has to do with.
var tiny = power(1, -4000)

func checkRound(t *testing.T, way int, neg bool, exp int, sig uint64, more bool) {
	t.Helper()
	v := power(sig, exp)
	if more {
		v = new(big.Rat).Add(v, tiny)
	}
	got, want := soft.Round(way, neg, exp, sig, more), rounded(way, neg, v)
	if got != want {
		t.Fatalf("Round(%d, %v, %d, %#x, %v): %08X, want %08X", way, neg, exp, sig, more, got, want)
	}
}

// P1.1: sigs about all powers of two and their ties, at all exponents where something changes.
func TestRoundAtEdges(t *testing.T) {
	sigs := []uint64{0, 1, 2, 3, 5, 7, 1<<23 - 1, 1 << 23, 1<<23 + 1, 1<<24 - 1, 1 << 24, 1<<24 + 1, 1<<24 + 2, 1<<24 + 3,
		1<<25 - 1, 1<<25 + 1, 1<<25 + 2, 1<<25 + 3, 1<<25 + 6, 0xFFFFFF << 40, 0xFFFFFF8 << 36, 0xFFFFFF8<<36 - 1, 0xFFFFFF8<<36 + 1,
		1<<63 | 1<<39, 1<<63 | 3<<39, 1<<63 | 1<<39 - 1, 1<<63 | 1<<39 | 1, 1 << 63, 1<<63 - 1, 1<<63 + 1, math.MaxUint64}
	exps := []int{-1100, -300, -214, -213, -212, -190, -189, -188, -175, -174, -173, -172, -151, -150, -149, -148, -127, -126, -64, -1, 0, 1,
		63, 64, 65, 102, 103, 104, 105, 126, 127, 128, 129, 200, 1100}
	for _, sig := range sigs {
		for _, exp := range exps {
			for i := range len(ways) * 4 {
				checkRound(t, ways[i/4], i&1 == 1, exp, sig, i&2 == 2)
			}
		}
	}
}

// P1.1: other numbers of all lengths, exponents over the whole of the floats and somewhat beyond.
func TestRoundOthers(t *testing.T) {
	s := seed{2}
	for range 20000 {
		sig := s.Next() >> s.Below(64)
		if s.Below(2) == 0 {
			// Few bits, so that ties come about.
			n := s.Below(64)
			sig = sig >> n << n
		}
		checkRound(t, ways[s.Below(len(ways))], s.Below(2) == 1, s.Below(420)-240, sig, s.Below(2) == 1)
	}
}

// P1.1: each float's own number is rounded to that float, by every way.
func TestRoundOfFloats(t *testing.T) {
	check := func(a uint32) {
		if !isFinite(a) {
			return
		}
		e, f := int(a>>23&255), uint64(a&0x7FFFFF)
		if e > 0 {
			e, f = e-1, f|1<<23
		}
		for _, way := range ways {
			if got := soft.Round(way, isBelow(a), e-149, f, false); got != a {
				t.Fatalf("Round by %d of %08X: %08X", way, a, got)
			}
		}
	}
	for _, a := range both() {
		check(a)
	}
	s := seed{3}
	for range 100000 {
		check(s.float())
	}
}

// P1.1: any int may be an exponent; nothing comes round.
func TestRoundFarExponents(t *testing.T) {
	for _, exp := range []int{1 << 20, 1 << 31, 1 << 32, 1<<32 - 149, 1 << 62, math.MaxInt - 63, math.MaxInt - 1, math.MaxInt} {
		for _, sig := range []uint64{1, 1 << 23, 1 << 63, math.MaxUint64} {
			for _, more := range []bool{false, true} {
				checkFar(t, exp, sig, more, [6]uint32{0x7F800000, 0xFF800000, 0x7F800000, 0xFF7FFFFF, 0x7F7FFFFF, 0xFF800000})
				checkFar(t, -exp, sig, more, [6]uint32{0, 0x80000000, 1, 0x80000000, 0, 0x80000001})
				checkFar(t, -exp-1, sig, more, [6]uint32{0, 0x80000000, 1, 0x80000000, 0, 0x80000001})
			}
		}
		for _, e := range []int{exp, -exp, -exp - 1, 0} {
			checkFar(t, e, 0, false, [6]uint32{0, 0x80000000, 0, 0x80000000, 0, 0x80000000})
			checkFar(t, e, 0, true, [6]uint32{0, 0x80000000, 1, 0x80000000, 0, 0x80000001})
		}
	}
}

// checkFar holds all ways and both signs against the answers by Nearest, Up and Down, of each the one above 0 first.
func checkFar(t *testing.T, exp int, sig uint64, more bool, want [6]uint32) {
	t.Helper()
	for _, way := range ways {
		for i, neg := range []bool{false, true} {
			w := want[i]
			if way == api.Up || way == api.Down {
				w = want[2*way+i]
			}
			if got := soft.Round(way, neg, exp, sig, more); got != w {
				t.Fatalf("Round(%d, %v, %d, %#x, %v): %08X, want %08X", way, neg, exp, sig, more, got, w)
			}
		}
	}
}
