package ops_test

import (
	"math"
	"slices"
	"testing"

	"lattice/api"
	"lattice/ops"
)

// P8.2: each attribute of each operator at what it may be: its ends, and some between.
func TestFits(t *testing.T) {
	for _, r := range wantRows() {
		for _, w := range r.attrs {
			all := fits(r.name, w)
			if len(all) == 0 {
				t.Errorf("nothing to try of %s, %s", r.name, w.name)
			}
			for _, a := range all {
				n := with(r, a)
				checkAsWanted(t, n)
				if _, _, err := ops.Resolve(n); err != api.OK {
					t.Errorf("%s with %s: %v", r.name, short(a), err)
				}
			}
		}
	}
}

// P8.2: and at what is beyond its ends.
func TestBeyond(t *testing.T) {
	for _, r := range wantRows() {
		for _, w := range r.attrs {
			all := beyond(r.name, w)
			if free := w.sort == "float" || w.sort == "int" || w.sort == "tensor"; len(all) == 0 != free {
				t.Errorf("%d to try of %s, %s", len(all), r.name, w.name)
			}
			for _, a := range all {
				checkErr(t, with(r, a), api.ErrAttr)
			}
		}
	}
}

// P8.2: an attribute of a kind that is not its own, though the fields of all kinds hold what it may be.
func TestOtherKinds(t *testing.T) {
	for _, r := range wantRows() {
		for _, w := range r.attrs {
			for _, kind := range []int{0, 1, 2, 3, 4, 5, 6, 7, 8, 9, 10, 11, 14, -1, 256 + wantKind(w.sort), 1<<32 + wantKind(w.sort), -wantKind(w.sort), math.MaxInt, math.MinInt} {
				for _, a := range fits(r.name, w)[:1] {
					a.Kind = kind
					checkAsWanted(t, with(r, a))
					if kind != wantKind(w.sort) {
						checkErr(t, with(r, a), api.ErrAttr)
					}
					a.F, a.I, a.S = 0x3f800000, 1, "none"
					a.T = singles()[0]
					a.Floats, a.Ints = []uint32{1}, []int64{1}
					if kind != wantKind(w.sort) {
						checkErr(t, with(r, a), api.ErrAttr)
					}
				}
			}
		}
	}
}

// P8.2: only the field of the attribute's kind counts.
func TestOtherFields(t *testing.T) {
	for _, r := range wantRows() {
		for _, w := range r.attrs {
			for _, a := range fits(r.name, w) {
				op, s, err := ops.Resolve(with(r, a))
				full := a
				if a.Kind != api.AttrFloat {
					full.F = 77
				}
				if a.Kind != api.AttrInt {
					full.I = 77
				}
				if a.Kind != api.AttrText {
					full.S = "text"
				}
				if a.Kind != api.AttrTensor {
					full.T = notSingles()[9]
				}
				if a.Kind != api.AttrFloats {
					full.Floats = make([]uint32, 4097)
				}
				if a.Kind != api.AttrInts {
					full.Ints = times(4097, int64(-77))
				}
				check(t, with(r, full), op, s, err)
			}
		}
	}
}

// P8.2: two of the same name, be they the same or not, next to each other or not.
func TestTwice(t *testing.T) {
	for _, r := range wantRows() {
		for _, w := range r.attrs {
			for _, a := range fits(r.name, w) {
				for _, b := range fits(r.name, w)[:1] {
					n := with(r, a, b)
					checkErr(t, n, api.ErrAttr)
					n.Attrs = append(slices.Clone(n.Attrs[1:]), a)
					checkErr(t, n, api.ErrAttr)
				}
			}
			for _, a := range beyond(r.name, w) {
				checkErr(t, with(r, fits(r.name, w)[0], a), api.ErrAttr)
			}
		}
	}
}

// P8.2: under a name that is none of its attributes', of an operator with attributes or without.
func TestOtherNames(t *testing.T) {
	all := []string{"", " ", "Axis", "axis ", "transC", "values", "value_string", "value_strings", "sparse_value", "saturate", "axis\x00"}
	for _, r := range wantRows() {
		for _, w := range r.attrs {
			all = append(all, w.name, w.field)
		}
	}
	slices.Sort(all)
	all = slices.Compact(all)
	for _, r := range wantRows() {
		for _, name := range all {
			if r.attr(name) != nil {
				continue
			}
			for _, a := range []api.Attr{{Name: name}, float(name, 0), number(name, 0), number(name, 1), text(name, "none"), tensor(name, singles()[0]), floats(name), numbers(name)} {
				n := with(r)
				n.Attrs = append(n.Attrs, a)
				checkErr(t, n, api.ErrAttr)
				n.Attrs = []api.Attr{a}
				checkErr(t, n, api.ErrAttr)
			}
		}
	}
}

// P8.2: each text.
func TestTexts(t *testing.T) {
	type choice struct {
		text string
		mode int
	}
	auto := []choice{{"NOTSET", api.ModeNone}, {"VALID", api.ModeValid}, {"SAME_UPPER", api.ModeUpper}, {"SAME_LOWER", api.ModeLower}}
	for _, c := range []struct {
		op, name string
		choices  []choice
	}{
		{"ScatterElements", "reduction", []choice{{"none", api.ModeNone}, {"add", api.ModeAdd}, {"mul", api.ModeMul}}},
		{"Pad", "mode", []choice{{"constant", api.ModeConstant}, {"reflect", api.ModeReflect}, {"edge", api.ModeEdge}}},
		{"DepthToSpace", "mode", []choice{{"DCR", api.ModeDCR}, {"CRD", api.ModeCRD}}},
		{"Conv", "auto_pad", auto}, {"MaxPool", "auto_pad", auto}, {"AveragePool", "auto_pad", auto},
	} {
		for _, x := range c.choices {
			_, s, err := ops.Resolve(with(*wantRowOf(c.op), text(c.name, x.text)))
			got, other := s.Mode, s.Auto
			if c.name == "auto_pad" {
				got, other = other, got
			}
			if got != x.mode || other != 0 || err != api.OK {
				t.Errorf("%s, %s %s: %s, %v", c.op, c.name, x.text, short(s), err)
			}
		}
		if len(c.choices) != len(wantTexts(c.op, c.name)) {
			t.Errorf("texts of %s", c.op)
		}
	}
}
