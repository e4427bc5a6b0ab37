package soft_test

import (
	"testing"

	"lattice/api"
	"lattice/soft"
)

// checkBy holds a call of two floats against the chapter's words, by all ways.
func checkBy(t *testing.T, got, want func(way int, a, b uint32) uint32) {
	t.Helper()
	pairs(12000, func(a, b uint32) {
		var told [3]uint32
		for w := range told {
			told[w] = want(w, a, b)
		}
		for _, way := range ways {
			w := told[api.Nearest]
			if way == api.Up || way == api.Down {
				w = told[way]
			}
			if g := got(way, a, b); g != w {
				t.Fatalf("way %d of %08X, %08X: %08X, want %08X", way, a, b, g, w)
			}
		}
	})
}

// P1.2.
func TestAddBy(t *testing.T) { checkBy(t, soft.AddBy, wantAdd) }

// P1.3.
func TestMulBy(t *testing.T) { checkBy(t, soft.MulBy, wantMul) }

// P1.4.
func TestDivBy(t *testing.T) { checkBy(t, soft.DivBy, wantDiv) }

// P1.5.
func TestNearestOnes(t *testing.T) {
	pairs(12000, func(a, b uint32) {
		for _, c := range []struct {
			name      string
			got, want uint32
		}{
			{"Add", soft.Add(a, b), wantAdd(api.Nearest, a, b)},
			{"Sub", soft.Sub(a, b), wantAdd(api.Nearest, a, b^0x80000000)},
			{"Mul", soft.Mul(a, b), wantMul(api.Nearest, a, b)},
			{"Div", soft.Div(a, b), wantDiv(api.Nearest, a, b)},
		} {
			if c.got != c.want {
				t.Fatalf("%s of %08X, %08X: %08X, want %08X", c.name, a, b, c.got, c.want)
			}
		}
	})
}

// P1.2 to P1.4: the rows of the chapter that name noughts, the infinite ones and no numbers, written out.
func TestSpecialRows(t *testing.T) {
	const inf, minf, nan, one, mone, neg0 = 0x7F800000, 0xFF800000, 0x7FC00000, 0x3F800000, 0xBF800000, 0x80000000
	for i, c := range []struct{ got, want uint32 }{
		{soft.Add(inf, inf), inf}, {soft.Add(minf, minf), minf}, {soft.Add(inf, minf), nan}, {soft.Add(minf, inf), nan},
		{soft.Add(inf, mone), inf}, {soft.Add(one, minf), minf}, {soft.Add(0x7F800001, inf), nan}, {soft.Add(inf, 0xFFFFFFFF), nan},
		{soft.AddBy(api.Up, 0, neg0), 0}, {soft.AddBy(api.Down, 0, neg0), neg0}, {soft.AddBy(api.Down, neg0, 0), neg0}, {soft.AddBy(9, neg0, 0), 0},
		{soft.AddBy(api.Down, 0, 0), 0}, {soft.AddBy(api.Up, neg0, neg0), neg0}, {soft.AddBy(api.Down, one, mone), neg0}, {soft.AddBy(api.Up, mone, one), 0},
		{soft.AddBy(api.Up, 0x7F7FFFFF, 1), inf}, {soft.AddBy(api.Up, 0xFF7FFFFF, 0xFF7FFFFF), 0xFF7FFFFF}, {soft.AddBy(api.Down, 0xFF7FFFFF, 0x80000001), minf},
		{soft.Mul(inf, minf), minf}, {soft.Mul(minf, minf), inf}, {soft.Mul(inf, mone), minf}, {soft.Mul(0x80000001, minf), inf},
		{soft.Mul(0, inf), nan}, {soft.Mul(minf, 0), nan}, {soft.Mul(0xFFC00000, one), nan}, {soft.Mul(one, 0x7F800001), nan},
		{soft.Mul(0, mone), neg0}, {soft.Mul(neg0, neg0), 0}, {soft.MulBy(api.Up, 0x80000001, 1), neg0}, {soft.MulBy(api.Down, 0x80000001, 1), 0x80000001},
		{soft.MulBy(api.Down, 0x7F7FFFFF, 0x7F7FFFFF), 0x7F7FFFFF}, {soft.MulBy(api.Up, 0x7F7FFFFF, 0xFF7FFFFF), 0xFF7FFFFF},
		{soft.Div(inf, inf), nan}, {soft.Div(minf, inf), nan}, {soft.Div(neg0, 0), nan}, {soft.Div(nan, one), nan}, {soft.Div(0, 0xFF800001), nan},
		{soft.Div(inf, 0), inf}, {soft.Div(inf, neg0), minf}, {soft.Div(minf, mone), inf}, {soft.Div(mone, 0), minf}, {soft.Div(mone, neg0), inf},
		{soft.Div(0, inf), 0}, {soft.Div(mone, inf), neg0}, {soft.Div(neg0, mone), 0}, {soft.DivBy(api.Up, one, inf), 0}, {soft.DivBy(api.Down, one, minf), neg0},
		{soft.Div(1, 0x7F7FFFFF), 0}, {soft.DivBy(api.Up, 1, 0x7F7FFFFF), 1}, {soft.Div(0x7F7FFFFF, 1), inf}, {soft.DivBy(api.Down, 0x7F7FFFFF, 1), 0x7F7FFFFF},
	} {
		if c.got != c.want {
			t.Errorf("row %d: %08X, want %08X", i, c.got, c.want)
		}
	}
}
