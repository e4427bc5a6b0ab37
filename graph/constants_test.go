package graph_test

import (
	"testing"

	"lattice/api"
	"lattice/graph"
)

// strange are floats that are no numbers, and some that are, with what tens.Canon makes of them.
func strange() ([]uint32, []uint32) {
	return []uint32{0x7F800001, 0x7FC00000, 0x7FFFFFFF, 0xFF800001, 0xFFC00000, 0xFFFFFFFF, 0x7F800000, 0xFF800000, 0x80000000, 0, 0x3F800000, 1},
		[]uint32{0x7FC00000, 0x7FC00000, 0x7FC00000, 0x7FC00000, 0x7FC00000, 0x7FC00000, 0x7F800000, 0xFF800000, 0x80000000, 0, 0x3F800000, 1}
}

// someTensors are such as may be, with what they are as a constant of a graph.
func someTensors() [][2]api.Tensor {
	raw, canon := strange()
	square := func(f []uint32) api.Tensor { return api.Tensor{Type: api.Float, Dims: []int{3, 4}, F: f} }
	same := func(t api.Tensor) [2]api.Tensor { return [2]api.Tensor{t, t} }
	return [][2]api.Tensor{
		{floats(raw...), floats(canon...)},
		{square(raw), square(canon)},
		{{Type: api.Float, F: raw[:1]}, {Type: api.Float, F: canon[:1]}},
		same(api.Tensor{Type: api.Float, Dims: []int{2, 0, 3}}),
		same(api.Tensor{Type: api.Int, Dims: []int{3}, I: []int64{0x7F800001, -1, 1 << 62}}),
		same(api.Tensor{Type: api.Int, Dims: []int{0}}),
		same(api.Tensor{Type: api.Bool, Dims: []int{1, 2, 1}, B: []bool{true, false}}),
		same(whole(-5)),
	}
}

func asConstant(t api.Tensor) api.Val {
	return api.Val{Type: t.Type, Dims: t.Dims, Const: true, T: t}
}

// P9.1: the model's constants are their tens.Canon, with their Type and Dims.
func TestConstants(t *testing.T) {
	m := model("", "x", "x")
	for i, pair := range someTensors() {
		m.Inits = append(m.Inits, api.Init{Name: string(rune('a' + i)), T: pair[0]})
	}
	g := built(t, m)
	for i, pair := range someTensors() {
		if want := asConstant(pair[1]); !alike(g.Vals[i], want) {
			t.Errorf("%s, want %s", short(g.Vals[i]), short(want))
		}
	}
	if g.Inputs[0] != len(m.Inits) || g.Vals[g.Inputs[0]].Const {
		t.Errorf("%s", short(g.Inputs))
	}
}

// P9.1: an input has its Type and Dims, and is no constant.
func TestInputs(t *testing.T) {
	m := model("c", "", "")
	var want []api.Val
	for i, v := range []api.Val{{Type: api.Float}, {Type: api.Int, Dims: []int{2, 3}}, {Type: api.Bool, Dims: []int{0}}, {Type: api.Int, Dims: []int{1, 1, 1, 1, 1, 1, 1, 4096}}} {
		m.Inputs = append(m.Inputs, api.Value{Name: string(rune('p' + i)), Type: v.Type, Dims: v.Dims})
		want = append(want, v)
	}
	if g := built(t, m); !alike(g.Vals[1:], want) || !alike(g.Inputs, list(1, 2, 3, 4)) {
		t.Errorf("%s, want %s", short(g), short(want))
	}
}

// P9.1: the output of an operator Constant is a constant, by each of its attributes; the node is none of the graph's.
func TestConstantOperators(t *testing.T) {
	raw, canon := strange()
	type row struct {
		attr api.Attr
		want api.Tensor
	}
	rows := []row{
		{api.Attr{Name: "value_float", Kind: api.AttrFloat, F: 0xFF800001}, api.Tensor{Type: api.Float, F: []uint32{0x7FC00000}}},
		{api.Attr{Name: "value_float", Kind: api.AttrFloat, F: 0xFF800000}, api.Tensor{Type: api.Float, F: []uint32{0xFF800000}}},
		{api.Attr{Name: "value_floats", Kind: api.AttrFloats, Floats: raw}, floats(canon...)},
		{api.Attr{Name: "value_floats", Kind: api.AttrFloats}, api.Tensor{Type: api.Float, Dims: []int{0}}},
		{number("value_int", -7), whole(-7)},
		{api.Attr{Name: "value_ints", Kind: api.AttrInts, Ints: []int64{3, 1}}, api.Tensor{Type: api.Int, Dims: []int{2}, I: []int64{3, 1}}},
	}
	for _, pair := range someTensors() {
		rows = append(rows, row{tensor("value", pair[0]), pair[1]})
	}
	for _, r := range rows {
		// What needs it may stand ahead of it, and behind.
		m := model("c", "x", "k b", node("Add", "k x", "a"), node("Constant", "", "k", r.attr), node("Relu", "k", "b"))
		g := built(t, m)
		if want := asConstant(r.want); !alike(g.Vals[3], want) {
			t.Errorf("%s: %s, want %s", short(r.attr), short(g.Vals[3]), short(want))
		}
		if want := "0 [3 1] [2] 2 [3] [4]"; links(g) != want || !alike(g.Outputs, list(3, 4)) || graph.Check(g) != api.OK {
			t.Errorf("%s: %s, want %s; outputs %d", short(r.attr), links(g), want, g.Outputs)
		}
	}
}

// P9.1: constants alone make no node; each has its value, in order.
func TestOnlyConstants(t *testing.T) {
	g := built(t, model("c", "", "b c a", told("a", 11), told("b", 12)))
	want := api.Graph{Vals: []api.Val{asConstant(whole(0)), asConstant(whole(11)), asConstant(whole(12))}, Outputs: []int{2, 0, 1}}
	if !alike(g, want) {
		t.Errorf("%s, want %s", short(g), short(want))
	}
}

// P9.1: of an operator Constant, too, ops tells what is wrong.
func TestWrongConstants(t *testing.T) {
	refuses(t, model("", "x", "x", told("a", 1), node("Constant", "", "k")), api.ErrAttr, 1)
	refuses(t, model("", "x", "x", told("a", 1), node("Constant", "x", "k", number("value_int", 1))), api.ErrArg, 1)
	refuses(t, model("", "x", "x", told("a", 1), told("k l", 1)), api.ErrArg, 1)
	refuses(t, model("", "x", "x", told("a", 1), told("-", 1)), api.ErrArg, 1)
	refuses(t, model("", "x", "x", told("a", 1), node("Constant", "", "k", tensor("value", api.Tensor{Type: api.Int}))), api.ErrArg, -1)
}
