package ops_test

import (
	"testing"

	"lattice/api"
)

// values are each of the five attributes of a Constant, with what it comes to.
func values() ([]api.Attr, []api.Tensor) {
	whole := api.Tensor{Type: api.Bool, Dims: []int{2, 1}, B: []bool{true, false}}
	return []api.Attr{
		tensor("value", whole),
		float("value_float", 0x7fc00001),
		floats("value_floats", 3, 0x80000000),
		number("value_int", -5),
		numbers("value_ints", 7, -8, 9),
	}, []api.Tensor{
		whole,
		{Type: api.Float, F: []uint32{0x7fc00001}},
		{Type: api.Float, Dims: []int{2}, F: []uint32{3, 0x80000000}},
		{Type: api.Int, I: []int64{-5}},
		{Type: api.Int, Dims: []int{3}, I: []int64{7, -8, 9}},
	}
}

// P8.2: a Constant with just one of its five.
func TestConstant(t *testing.T) {
	attrs, want := values()
	for i, a := range attrs {
		check(t, node("Constant", 0, 1, a), 61, api.Setting{Value: want[i]}, api.OK)
	}
	check(t, node("Constant", 0, 1, float("value_float", 0)), 61, api.Setting{Value: api.Tensor{Type: api.Float, F: []uint32{0}}}, api.OK)
	check(t, node("Constant", 0, 1, number("value_int", 0)), 61, api.Setting{Value: api.Tensor{Type: api.Int, I: []int64{0}}}, api.OK)
	check(t, node("Constant", 0, 1, floats("value_floats")), 61, api.Setting{Value: api.Tensor{Type: api.Float, Dims: []int{0}}}, api.OK)
	check(t, node("Constant", 0, 1, numbers("value_ints")), 61, api.Setting{Value: api.Tensor{Type: api.Int, Dims: []int{0}}}, api.OK)
	check(t, node("Constant", 0, 1, tensor("value", api.Tensor{})), 61, api.Setting{}, api.OK)
}

// P8.2: with none, with two (of each pair, and the same twice), and with all.
func TestConstantNotJustOne(t *testing.T) {
	attrs, _ := values()
	checkErr(t, node("Constant", 0, 1), api.ErrAttr)
	for _, a := range attrs {
		for _, b := range attrs {
			checkErr(t, node("Constant", 0, 1, a, b), api.ErrAttr)
			checkErr(t, node("Constant", 0, 1, a, api.Attr{Name: b.Name, Kind: b.Kind}), api.ErrAttr)
		}
	}
	checkErr(t, node("Constant", 0, 1, attrs[:3]...), api.ErrAttr)
	checkErr(t, node("Constant", 0, 1, attrs...), api.ErrAttr)
}

// P8.2: a ConstantOfShape takes its tensor as it is, and stands at a float 0 without one.
func TestConstantOfShape(t *testing.T) {
	for _, one := range singles() {
		check(t, node("ConstantOfShape", 1, 1, tensor("value", one)), 62, api.Setting{Value: one}, api.OK)
	}
	for _, other := range notSingles() {
		checkErr(t, node("ConstantOfShape", 1, 1, tensor("value", other)), api.ErrAttr)
	}
	check(t, node("ConstantOfShape", 1, 1), 62, api.Setting{Value: api.Tensor{Type: api.Float, Dims: []int{1}, F: []uint32{0}}}, api.OK)
}

// P8.2: pads together with each auto_pad, in either order: that they are there counts, also without a number.
func TestPadsAndAuto(t *testing.T) {
	modes := map[string]int{"NOTSET": api.ModeNone, "VALID": api.ModeValid, "SAME_UPPER": api.ModeUpper, "SAME_LOWER": api.ModeLower}
	for _, c := range []struct {
		op   string
		in   int
		with []api.Attr
		s    api.Setting
	}{
		{"Conv", 2, nil, api.Setting{Group: 1}},
		{"MaxPool", 1, []api.Attr{numbers("kernel_shape", 2, 2)}, api.Setting{Kernel: []int{2, 2}}},
		{"AveragePool", 1, []api.Attr{numbers("kernel_shape", 2, 2)}, api.Setting{Kernel: []int{2, 2}}},
	} {
		op := wantRowOf(c.op).op
		for s, mode := range modes {
			for _, list := range [][]int64{nil, {}, {0}, {0, 0, 0, 0}, {1, 1}, {0, 0, 0, 1}, times(16, int64(4096))} {
				want := c.s
				want.Auto = mode
				for _, n := range list {
					want.Pads = append(want.Pads, int(n))
				}
				for _, attrs := range [][]api.Attr{{text("auto_pad", s), numbers("pads", list...)}, {numbers("pads", list...), text("auto_pad", s)}} {
					n := node(c.op, c.in, 1, append(attrs, c.with...)...)
					if s == "NOTSET" {
						check(t, n, op, want, api.OK)
					} else {
						checkErr(t, n, api.ErrAttr)
					}
				}
			}
		}
	}
}
