package elem_test

import "math"

// This file holds what the tests are held against: the chapter's steps once more, over the machine's own floats, which soft and round have no part in.

// f is a float32 by its bits.
func f(a uint32) float32 { return math.Float32frombits(a) }

// bitsOf are a float32's bits; all that are no numbers are one.
func bitsOf(x float32) uint32 {
	if x != x {
		return 0x7FC00000
	}
	return math.Float32bits(x)
}

// fma is a * b + c, rounded once: the sum of doubles is made odd where it lost anything, so that the second rounding goes the right way.
func fma(a, b, c float32) float32 {
	p, q := float64(a)*float64(b), float64(c)
	s := p + q
	if math.IsNaN(s) || math.IsInf(s, 0) {
		return float32(s)
	}
	back := s - p
	lost := (p - (s - back)) + (q - back)
	n := math.Float64bits(s)
	if lost != 0 && n&1 == 0 {
		if (lost > 0) == (s > 0) {
			n++
		} else {
			n--
		}
	}
	return float32(math.Float64frombits(n))
}

// rowBy is the chapter's 'row of Fma by z through' constants.
func rowBy(z float32, constants ...uint32) float32 {
	y := f(constants[0])
	for i := 1; i < len(constants); i++ {
		y = fma(z, y, f(constants[i]))
	}
	return y
}

// between is the chapter's 'held'.
func between(lo, hi, y float32) float32 {
	switch {
	case y < lo:
		return lo
	case y > hi:
		return hi
	case y == lo && lo == 0:
		// Of two noughts Max answers the one above 0.
		return 0
	}
	return y
}

func even(x float32) float32 { return float32(math.RoundToEven(float64(x))) }

// toInt is towards 0, and holds at the outermost ones.
func toInt(x float32) int64 {
	switch {
	case x >= 0x1p63:
		return math.MaxInt64
	case x < -0x1p63:
		return math.MinInt64
	}
	return int64(x)
}

func signed(x, y float32) float32 {
	if math.Signbit(float64(x)) {
		return -y
	}
	return y
}

func wantExp(x float32) float32 {
	switch {
	case x != x:
		return x
	case x > f(0x42B17217):
		return f(0x7F800000)
	case x < f(0xC2D00000):
		return 0
	}
	k := even(x * f(0x3FB8AA3B))
	r := fma(k, f(0x395E8083), fma(k, f(0xBF318000), x))
	p := rowBy(r, 0x3AB60B61, 0x3C088889, 0x3D2AAAAB, 0x3E2AAAAB, 0x3F000000, 0x3F800000, 0x3F800000)
	return float32(math.Ldexp(float64(p), int(k)))
}

func wantLog(x float32) float32 {
	switch {
	case x != x, x < 0:
		return f(0x7FC00000)
	case x == 0:
		return f(0xFF800000)
	case x == f(0x7F800000):
		return x
	}
	e := int64(0)
	if math.Float32bits(x)>>23 == 0 {
		x, e = x*0x1p24, -24
	}
	e += int64(math.Float32bits(x)>>23) - 126
	m := f(math.Float32bits(x)&0x7FFFFF | 126<<23)
	if m < f(0x3F3504F3) {
		m, e = m+m, e-1
	}
	d := m - 1
	s := d / float32(d+2)
	z := float32(s * s)
	l := float32(s * rowBy(z, 0x3E638E39, 0x3E924925, 0x3ECCCCCD, 0x3F2AAAAB, 0x40000000))
	k := float32(e)
	return fma(k, f(0x3F318000), fma(k, f(0xB95E8083), l))
}

// quarters are S, C and q of P3.3.
func quarters(x float32) (s, c float32, q int64) {
	k := even(x * f(0x3F22F983))
	r := fma(k, f(0xB3A22169), fma(k, f(0xB9FDA000), fma(k, f(0xBFC90000), x)))
	z := float32(r * r)
	s = fma(float32(r*z), rowBy(z, 0xB9500D01, 0x3C088889, 0xBE2AAAAB), r)
	c = rowBy(z, 0xBAB60B61, 0x3D2AAAAB, 0xBF000000, 0x3F800000)
	return s, c, toInt(k) & 3
}

func wantSin(x float32) float32 {
	if x != x || x-x != 0 {
		return f(0x7FC00000)
	}
	s, c, q := quarters(x)
	return between(-1, 1, []float32{s, c, -s, -c}[q])
}

func wantCos(x float32) float32 {
	if x != x || x-x != 0 {
		return f(0x7FC00000)
	}
	s, c, q := quarters(x)
	return between(-1, 1, []float32{c, -s, -c, s}[q])
}

func wantTanh(x float32) float32 {
	a := float32(math.Abs(float64(x)))
	if x != x || a < f(0x39800000) {
		return x
	}
	t := 1 - 2/float32(wantExp(2*a)+1)
	return signed(x, between(0, 1, t))
}

func wantErf(x float32) float32 {
	a := float32(math.Abs(float64(x)))
	switch {
	case x != x, x == 0:
		return x
	case a > 4:
		return signed(x, 1)
	}
	t := 1 / fma(f(0x3EA7BA05), a, 1)
	p := float32(t * rowBy(t, 0x3F87DC22, 0xBFBA00E3, 0x3FB5F0E3, 0xBE91A98E, 0x3E827906))
	return signed(x, between(0, 1, fma(-p, wantExp(-float32(a*a)), 1)))
}

func wantSigmoid(x float32) float32 { return between(0, 1, 1/float32(1+wantExp(-x))) }

func wantSoftplus(x float32) float32 {
	more := wantLog(float32(1 + wantExp(-float32(math.Abs(float64(x))))))
	if x > 0 || x != x {
		return x + more
	}
	return 0 + more
}

func wantPow(a, b float32) float32 {
	endless := float32(math.Abs(float64(b))) == f(0x7F800000)
	isWhole := !endless && even(b) == b
	switch {
	case b == 0, a == 1:
		return 1
	case a != a, b != b:
		return f(0x7FC00000)
	case a == -1 && endless:
		return 1
	case a < 0 && !endless && !isWhole:
		return f(0x7FC00000)
	}
	y := wantExp(b * wantLog(float32(math.Abs(float64(a)))))
	isOdd := isWhole && math.Mod(math.Abs(float64(b)), 2) == 1 && math.Abs(float64(b)) < 0x1p24
	if isOdd {
		return signed(a, y)
	}
	return y
}
