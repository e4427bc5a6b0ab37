package round_test

import (
	"math"
	"testing"

	"lattice/api"
	"lattice/round"
)

// The chapter's table 'Examples'.
func TestExamples(t *testing.T) {
	for i, c := range []struct{ got, want uint32 }{
		{round.Fma(0x3F800001, 0x3F800001, 0xBF800002), 0x28800000}, {round.Fma(0x3F800000, 0, 0x80000000), 0}, {round.Fma(0xBF800000, 0, 0x80000000), 0x80000000},
		{round.Fma(0x7F800000, 0x3F800000, 0xFF800000), 0x7FC00000}, {round.Fma(0x7F7FFFFF, 0x40000000, 0xFF800000), 0xFF800000}, {round.FmaBy(api.Down, 0x3F800000, 0x3F800000, 0xBF800000), 0x80000000},
		{round.Sqrt(0x40000000), 0x3FB504F3}, {round.SqrtBy(api.Up, 0x40000000), 0x3FB504F4}, {round.Sqrt(0xBF800000), 0x7FC00000}, {round.Sqrt(0x80000000), 0x80000000}, {round.Sqrt(1), 0x1A3504F3},
		{round.FromInt(16777217), 0x4B800000}, {round.FromIntBy(api.Up, 16777217), 0x4B800001}, {round.FromInt(math.MinInt64), 0xDF000000},
		{round.Floor(0xBF000000), 0xBF800000}, {round.Ceil(0xBF000000), 0x80000000}, {round.Even(0x3F000000), 0}, {round.Even(0x40200000), 0x40000000}, {round.Even(0xBF000001), 0xBF800000},
		{round.Scale(0x3F800000, -149), 1}, {round.Scale(0x3F800000, -150), 0}, {round.Scale(0x3FC00000, -150), 1}, {round.Scale(0x3F800000, 128), 0x7F800000}, {round.Scale(1, 149), 0x3F800000},
	} {
		if c.got != c.want {
			t.Errorf("example %d: %08X, want %08X", i, c.got, c.want)
		}
	}
	for _, c := range []struct {
		a uint32
		n int64
	}{{0xC0200000, -2}, {0x5F000000, math.MaxInt64}, {0xDF000000, math.MinInt64}, {0x7FC00000, 0}} {
		if got := round.ToInt(c.a); got != c.n {
			t.Errorf("ToInt(%08X): %d, want %d", c.a, got, c.n)
		}
	}
}

// Rows that the promises say in so many words: noughts, infinite ones, no numbers, and the outermost int64s.
func TestSpecialRows(t *testing.T) {
	const inf, minf, nan, one, mone, neg0 = 0x7F800000, 0xFF800000, 0x7FC00000, 0x3F800000, 0xBF800000, 0x80000000
	for i, c := range []struct{ got, want uint32 }{
		{round.Fma(0x7F800001, one, one), nan}, {round.Fma(one, 0xFFFFFFFF, one), nan}, {round.Fma(inf, inf, 0x7F800001), nan},
		{round.Fma(inf, 0, one), nan}, {round.Fma(neg0, minf, inf), nan}, {round.Fma(inf, mone, inf), nan}, {round.Fma(minf, mone, inf), inf},
		{round.Fma(inf, mone, one), minf}, {round.Fma(mone, minf, 0), inf}, {round.Fma(one, one, minf), minf}, {round.Fma(0x7F7FFFFF, 0x7F7FFFFF, minf), minf},
		{round.Fma(0, one, 0), 0}, {round.Fma(0, mone, neg0), neg0}, {round.Fma(0, mone, 0), 0}, {round.FmaBy(api.Down, 0, mone, 0), neg0},
		{round.FmaBy(api.Down, 0, one, neg0), neg0}, {round.FmaBy(api.Up, 0, one, neg0), 0}, {round.FmaBy(api.Down, 0, one, 0), 0}, {round.FmaBy(api.Up, neg0, one, neg0), neg0},
		{round.FmaBy(api.Down, mone, one, one), neg0}, {round.FmaBy(api.Up, mone, one, one), 0}, {round.FmaBy(9, mone, one, one), 0},
		{round.Fma(1, 0x80000001, 0), neg0}, {round.FmaBy(api.Down, 1, 0x80000001, 0), 0x80000001}, {round.FmaBy(api.Up, 1, 1, neg0), 1}, {round.Fma(1, 1, neg0), 0},
		{round.SqrtBy(api.Down, neg0), neg0}, {round.Sqrt(0), 0}, {round.Sqrt(inf), inf}, {round.Sqrt(minf), nan}, {round.Sqrt(0xFFC00001), nan}, {round.Sqrt(0x80000001), nan},
		{round.FromIntBy(api.Down, 0), 0}, {round.FromIntBy(api.Up, math.MaxInt64), 0x5F000000}, {round.FromIntBy(api.Down, math.MaxInt64), 0x5EFFFFFF},
		{round.FromIntBy(api.Up, math.MinInt64+1), 0xDEFFFFFF}, {round.FromIntBy(api.Down, math.MinInt64+1), 0xDF000000},
		{round.Floor(neg0), neg0}, {round.Ceil(minf), minf}, {round.Even(0xFF800001), nan}, {round.Even(mone - 0x00800000), neg0}, {round.Ceil(0x80000001), neg0}, {round.Floor(0x7F7FFFFF), 0x7F7FFFFF},
		{round.Scale(neg0, math.MinInt), neg0}, {round.Scale(minf, math.MinInt), minf}, {round.Scale(0xFFC00000, math.MaxInt), nan}, {round.Scale(mone, math.MaxInt), minf}, {round.Scale(mone, math.MinInt), neg0},
	} {
		if c.got != c.want {
			t.Errorf("row %d: %08X, want %08X", i, c.got, c.want)
		}
	}
}
