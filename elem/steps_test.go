package elem_test

import (
	"testing"

	"lattice/elem"
	"lattice/seeds"
)

// of is a function of one float: its name, the call, the chapter's steps over the machine's floats, and where its steps part.
type of struct {
	name  string
	call  func(x uint32) uint32
	want  func(x float32) float32
	parts []uint32
}

// eight are the functions of one float.
func eight() []of {
	return []of{
		// ln 2 / 2, the ends, where the answers have the exponent field 0, and where the last bit of the first constant is seen.
		{"Exp", elem.Exp, wantExp, []uint32{0x3EB17218, 0x42B17217, 0xC2AEAC50, 0xC2CFF1B4, 0xC2D00000, 0x42B00000, 0x3F8A1156, 0x3F855715}},
		// The root of 1/2, 1, the least ones, and where the last bits of the second and third constant are seen (that of the first never is).
		{"Log", elem.Log, wantLog, []uint32{0x3F3504F3, 0x3F800000, 0x3FB504F3, 0x00800000, 0x00400000, 1, 0x3FB85820, 0x3FAAF3B8, 0x3FC06511}},
		{"Sin", elem.Sin, wantSin, circleParts},
		{"Cos", elem.Cos, wantCos, circleParts},
		{"Tanh", elem.Tanh, wantTanh, []uint32{0x39800000, 0x3F800000, 0x41102CB3, 0x41317217, 0x42317217}},
		{"Erf", elem.Erf, wantErf, []uint32{0x33800000, 0x34000000, 0x40800000, 0x3F800000}},
		{"Sigmoid", elem.Sigmoid, wantSigmoid, []uint32{0x42B17217, 0x42D00000, 0x41800000, 0x33800000}},
		{"Softplus", elem.Softplus, wantSoftplus, []uint32{0x42B17217, 0x42D00000, 0x41800000, 0x33800000}},
	}
}

// circleParts are multiples of a quarter of a turn, halves of it, and where the quarters are more than a float or an int64 tells.
var circleParts = []uint32{0x3F490FDB, 0x3FC90FDB, 0x4016CBE4, 0x40490FDB, 0x4096CBE4, 0x40C90FDB, 0x40E231D6, 0x4B800000, 0x4BC90FDB, 0x53800000, 0x5F000000, 0x5F490FDB, 0x5FC90FDB, 0x60490FDB}

// edges are the amounts at which something changes for floats themselves, or for many of the functions.
var edges = []uint32{
	0, 1, 2, 0x400000, 0x7FFFFF, 0x800000, 0x800001, 0x1000000, 0x33000000, 0x33800000, 0x39800000, 0x3E800000, 0x3F000000, 0x3F3504F3,
	0x3F7FFFFF, 0x3F800000, 0x3F800001, 0x3FC00000, 0x40000000, 0x40200000, 0x40400000, 0x40800000, 0x40A00000, 0x41200000, 0x42B17217, 0x42D00000,
	0x4B000000, 0x4B000001, 0x4B7FFFFF, 0x4B800000, 0x4B800001, 0x53800000, 0x5F000000, 0x7F000000, 0x7F7FFFFF, 0x7F800000, 0x7F800001, 0x7FBFFFFF, 0x7FC00000, 0x7FFFFFFF,
}

// about calls g with the amounts next to each, with both signs.
func about(amounts []uint32, g func(x uint32)) {
	for _, a := range amounts {
		for off := range uint32(41) {
			x := a + off - 20
			g(x)
			g(x ^ 0x80000000)
		}
	}
}

// singles calls g with the edges and what is next to them, floats of all exponent fields, and n others that are always the same.
func singles(n int, g func(x uint32)) {
	about(edges, g)
	for e := range uint32(256) {
		for _, frac := range []uint32{0, 1, 0x200000, 0x3504F3, 0x400000, 0x600000, 0x7FFFFE, 0x7FFFFF} {
			g(e<<23 | frac)
			g(e<<23 | frac | 0x80000000)
		}
	}
	s := seed{1}
	for range n {
		g(s.float())
	}
}

// seed tells floats to try beside numbers.
type seed struct{ seeds.Seed }

// float is any float; those of amounts at which the functions are no mere ends come more often than by chance.
func (s *seed) float() uint32 {
	x := uint32(s.Next())
	switch s.Below(4) {
	case 0:
		return x
	case 1:
		return x&0x807FFFFF | uint32(100+s.Below(35))<<23
	case 2:
		return x&0x807FFFFF | uint32(124+s.Below(10))<<23
	}
	return x&0x807FFFFF | uint32(128+s.Below(50))<<23
}

// P3.1 to P3.6: each step as the chapter has it, bit for bit.
func TestSteps(t *testing.T) {
	for _, c := range eight() {
		t.Run(c.name, func(t *testing.T) {
			check := func(x uint32) {
				if got, want := c.call(x), bitsOf(c.want(f(x))); got != want {
					t.Fatalf("%s(%08X): %08X, want %08X", c.name, x, got, want)
				}
			}
			about(c.parts, check)
			singles(150000, check)
		})
	}
}

// powers calls g with pairs of edges, whole powers of all signs and sizes, and n others.
func powers(n int, g func(a, b uint32)) {
	bases, exponents := []uint32{}, []uint32{}
	for _, a := range edges {
		bases = append(bases, a, a^0x80000000)
	}
	for k := range 40 {
		b := bitsOf(float32(k) / 2)
		exponents = append(exponents, b, b^0x80000000)
	}
	for _, a := range bases {
		for _, b := range append(exponents, bases...) {
			g(a, b)
		}
	}
	s := seed{2}
	for range n {
		a, b := s.float(), s.float()
		g(a, b)
		g(a, bitsOf(float32(s.Below(41)-20)))
		// About 2^24, where the odd ones end.
		g(a&0x807FFFFF|0x3F000000, 0x4B800000-32+uint32(s.Below(64)))
		g(a&0x80000000|0x3F7FFF00|b&0x1FF, 0x4B000000+uint32(s.Below(1<<23)))
	}
}

// P3.7.
func TestPowSteps(t *testing.T) {
	powers(100000, func(a, b uint32) {
		if got, want := elem.Pow(a, b), bitsOf(wantPow(f(a), f(b))); got != want {
			t.Fatalf("Pow(%08X, %08X): %08X, want %08X", a, b, got, want)
		}
	})
}
