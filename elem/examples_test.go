package elem_test

import (
	"math"
	"testing"

	"lattice/elem"
)

const inf, minf, nan, one, mone, neg0 = 0x7F800000, 0xFF800000, 0x7FC00000, 0x3F800000, 0xBF800000, 0x80000000

// said is an answer, and what the document says of it.
type said struct{ got, want uint32 }

func hold(t *testing.T, rows []said) {
	t.Helper()
	for i, c := range rows {
		if c.got != c.want {
			t.Errorf("row %d: %08X, want %08X", i, c.got, c.want)
		}
	}
}

// The chapter's table 'Examples', and the document's example 8.
func TestExamples(t *testing.T) {
	hold(t, []said{
		{elem.Exp(0), one}, {elem.Exp(inf), inf}, {elem.Exp(minf), 0}, {elem.Exp(0x7F800001), nan},
		{elem.Log(one), 0}, {elem.Log(neg0), minf}, {elem.Log(mone), nan}, {elem.Log(inf), inf},
		{elem.Sin(0), 0}, {elem.Cos(0), one}, {elem.Sin(inf), nan},
		{elem.Tanh(neg0), neg0}, {elem.Tanh(minf), mone}, {elem.Erf(0x41200000), one}, {elem.Sigmoid(0), 0x3F000000}, {elem.Sigmoid(minf), 0},
		{elem.Pow(nan, 0), one}, {elem.Pow(one, nan), one}, {elem.Pow(mone, inf), one}, {elem.Pow(mone, 0x3F000000), nan}, {elem.Pow(0, mone), inf},
	})
}

// Of each no number the first eight answer the one that is told.
func TestNoNumbers(t *testing.T) {
	for _, c := range eight() {
		for _, x := range []uint32{0x7F800001, 0x7FBFFFFF, 0x7FC00000, 0x7FC00001, 0x7FFFFFFF, 0xFF800001, 0xFFBFFFFF, 0xFFC00000, 0xFFFFFFFF} {
			if got := c.call(x); got != nan {
				t.Errorf("%s(%08X): %08X", c.name, x, got)
			}
		}
	}
}

// P3.1 and P3.2: ends, noughts, infinite ones, and one step beyond the ends.
func TestSpecialPowers(t *testing.T) {
	hold(t, []said{
		{elem.Exp(neg0), one}, {elem.Exp(1), one}, {elem.Exp(one), 0x402DF854}, {elem.Exp(mone), 0x3EBC5AB3},
		{elem.Exp(0x42B17217), 0x7F7FFF84}, {elem.Exp(0x42B17218), inf}, {elem.Exp(0x7F7FFFFF), inf},
		{elem.Exp(0xC2CFF1B4), 1}, {elem.Exp(0xC2D00001), 0}, {elem.Exp(0xFF7FFFFF), 0},
		{elem.Log(0), minf}, {elem.Log(minf), nan}, {elem.Log(0x80000001), nan}, {elem.Log(0xFF7FFFFF), nan},
		{elem.Log(1), 0xC2CE8ED0}, {elem.Log(0x00800000), 0xC2AEAC50}, {elem.Log(0x40000000), 0x3F317218}, {elem.Log(0x7F7FFFFF), 0x42B17218},
	})
}

// P3.3: the nought below 0 goes through the steps as any float, and comes out above 0.
func TestSpecialTurns(t *testing.T) {
	hold(t, []said{
		{elem.Sin(minf), nan}, {elem.Cos(inf), nan}, {elem.Cos(minf), nan}, {elem.Sin(neg0), 0}, {elem.Cos(neg0), one},
		{elem.Sin(1), 1}, {elem.Sin(0x80000001), 0x80000001}, {elem.Cos(1), one}, {elem.Sin(one), 0x3F576AA0}, {elem.Cos(one), 0x3F0A5140},
		// The quarters are more than an int64 holds: its last two bits are those of the outermost ones.
		{elem.Sin(0x7F7FFFFF), one}, {elem.Cos(0x7F7FFFFF), mone}, {elem.Sin(0xFF7FFFFF), one}, {elem.Cos(0xFF7FFFFF), mone},
	})
}

// P3.4 to P3.6: noughts, infinite ones, and both sides of where the steps part.
func TestSpecialCurves(t *testing.T) {
	hold(t, []said{
		{elem.Tanh(0), 0}, {elem.Tanh(inf), one}, {elem.Tanh(1), 1}, {elem.Tanh(0x80000001), 0x80000001}, {elem.Tanh(0xB97FFFFF), 0xB97FFFFF}, {elem.Tanh(0x7F7FFFFF), one},
		{elem.Erf(0), 0}, {elem.Erf(neg0), neg0}, {elem.Erf(inf), one}, {elem.Erf(minf), mone}, {elem.Erf(1), 0}, {elem.Erf(0x80000001), neg0}, {elem.Erf(0xC0800001), mone}, {elem.Erf(one), 0x3F57BB3B},
		{elem.Sigmoid(neg0), 0x3F000000}, {elem.Sigmoid(inf), one}, {elem.Sigmoid(0xFF7FFFFF), 0}, {elem.Sigmoid(0x7F7FFFFF), one}, {elem.Sigmoid(one), 0x3F3B26A7},
		{elem.Softplus(inf), inf}, {elem.Softplus(minf), 0}, {elem.Softplus(0), 0x3F317218}, {elem.Softplus(neg0), 0x3F317218}, {elem.Softplus(0x7F7FFFFF), 0x7F7FFFFF}, {elem.Softplus(0xFF7FFFFF), 0}, {elem.Softplus(one), 0x3FA818F6},
	})
}

// P3.7: the cases in the promise's order, each with what would come first if the order were another.
func TestSpecialPows(t *testing.T) {
	const half, two, three, mtwo, mthree = 0x3F000000, 0x40000000, 0x40400000, 0xC0000000, 0xC0400000
	hold(t, []said{
		{elem.Pow(0xFFFFFFFF, neg0), one}, {elem.Pow(inf, 0), one}, {elem.Pow(0, neg0), one}, {elem.Pow(one, 0x7F800001), one}, {elem.Pow(one, minf), one},
		{elem.Pow(0xFFC00000, one), nan}, {elem.Pow(two, 0xFF800001), nan}, {elem.Pow(mone, nan), nan}, {elem.Pow(nan, inf), nan},
		{elem.Pow(mone, minf), one}, {elem.Pow(mtwo, inf), inf}, {elem.Pow(mtwo, minf), 0}, {elem.Pow(0xBF000000, inf), 0}, {elem.Pow(0xBF000000, minf), inf}, {elem.Pow(minf, inf), inf},
		{elem.Pow(mtwo, half), nan}, {elem.Pow(minf, half), nan}, {elem.Pow(0x80000001, 0x3FC00000), nan}, {elem.Pow(mone, 1), nan}, {elem.Pow(neg0, half), 0}, {elem.Pow(neg0, 0xBF000000), inf},
		{elem.Pow(mone, three), mone}, {elem.Pow(mone, mthree), mone}, {elem.Pow(mone, two), one}, {elem.Pow(mone, 0xC0800000), one},
		{elem.Pow(mone, 0x4B7FFFFF), mone}, {elem.Pow(mone, 0xCB7FFFFF), mone}, {elem.Pow(mone, 0x4B800000), one}, {elem.Pow(mone, 0x4B800001), one}, {elem.Pow(mone, 0x7F7FFFFF), one},
		{elem.Pow(neg0, three), neg0}, {elem.Pow(neg0, two), 0}, {elem.Pow(neg0, mone), minf}, {elem.Pow(neg0, mtwo), inf}, {elem.Pow(0, three), 0}, {elem.Pow(neg0, inf), 0}, {elem.Pow(neg0, minf), inf},
		{elem.Pow(minf, one), minf}, {elem.Pow(minf, two), inf}, {elem.Pow(minf, mone), neg0}, {elem.Pow(minf, mtwo), 0}, {elem.Pow(inf, mone), 0}, {elem.Pow(inf, half), inf},
	})
}

// Each function is about what its name says: so a constant that is miscopied here and there alike is found.
func TestNearTheFunctions(t *testing.T) {
	sigmoid := func(x float64) float64 { return 1 / (1 + math.Exp(-x)) }
	softplus := func(x float64) float64 { return max(x, 0) + math.Log1p(math.Exp(-math.Abs(x))) }
	s := seed{3}
	for i, c := range []struct {
		true     func(x float64) float64
		far, off float64 // how far from 0 it is tried, and how far off it may be, of amounts above 1 in proportion
	}{{math.Exp, 80, 3e-7}, {math.Log, 1e30, 3e-7}, {math.Sin, 500, 4e-6}, {math.Cos, 500, 4e-6}, {math.Tanh, 20, 2e-7}, {math.Erf, 6, 6e-7}, {sigmoid, 60, 2e-7}, {softplus, 1e6, 5e-7}} {
		e := eight()[i]
		for range 50000 {
			bits := s.float()
			x := float64(f(bits))
			want := c.true(x)
			if math.Abs(x) > c.far || math.IsNaN(x) || math.IsNaN(want) || math.IsInf(want, 0) {
				continue
			}
			if got := float64(f(e.call(bits))); !(math.Abs(got-want) <= c.off*max(1, math.Abs(want))) {
				t.Fatalf("%s(%08X): %v, not about %v", e.name, bits, got, want)
			}
		}
	}
}
