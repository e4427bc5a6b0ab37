package elem

import (
	"lattice/api"
	"lattice/round"
	"lattice/soft"
)

const (
	perQuarter = 0x3F22F983 // quarters of a turn in 1: 2 / pi

	// A quarter of a turn in three parts, below 0; the high ones have so few bits that nothing is lost of what small multiples leave.
	quarterHigh = 0xBFC90000
	quarterMid  = 0xB9FDA000
	quarterLow  = 0xB3A22169
)

// Sin is the sine.
func Sin(x uint32) uint32 { return circle(x, 0) }

// Cos is the cosine.
func Cos(x uint32) uint32 { return circle(x, 1) }

// circle is the sine of x with some quarters of a turn ahead of it, so that one list serves the cosine too.
func circle(x uint32, ahead int64) uint32 {
	if !finite(x) {
		return api.FloatNaN
	}
	k := round.Even(soft.Mul(x, perQuarter))
	r := round.Fma(k, quarterLow, round.Fma(k, quarterMid, round.Fma(k, quarterHigh, x)))
	s, c := within(r)
	y := s
	switch (round.ToInt(k)&3 + ahead) & 3 {
	case 1:
		y = c
	case 2:
		y = soft.Neg(s)
	case 3:
		y = soft.Neg(c)
	}
	return held(minusOne, one, y)
}

// within is the sine and the cosine of what is left of an angle without its quarters.
func within(r uint32) (s, c uint32) {
	z := soft.Mul(r, r)
	s = round.Fma(soft.Mul(r, z), row(z, 0xB9500D01, 0x3C088889, 0xBE2AAAAB), r)
	return s, row(z, 0xBAB60B61, 0x3D2AAAAB, 0xBF000000, one)
}
