package infer_test

import (
	"math"
	"slices"
	"testing"

	"lattice/api"
	"lattice/graph"
	"lattice/infer"
)

// graphOf is a graph whose values stand in words; told lists among them are its constants.
func graphOf(text string, inputs, outputs []int, nodes ...api.GNode) api.Graph {
	return api.Graph{Vals: vals(text), Inputs: inputs, Outputs: outputs, Nodes: nodes}
}

func list(n ...int) []int { return n }

func gnode(op int, s api.Setting, in, out []int, source int) api.GNode {
	return api.GNode{Op: op, S: s, In: in, Out: out, Source: source}
}

// sane is a graph of which each part is wrong in some test: 0 and 1 constants, 2 and 3 inputs, 4 to 7 of nodes, 8 nothing's.
func sane() api.Graph {
	g := graphOf("t2,-1 i f2.6 f4 - - - - -", list(2, 3), list(7, 0, 2),
		gnode(api.OpReshape, plain, list(2, 0), list(4), 10),
		gnode(api.OpClip, plain, list(4, -1, -1), list(5), 12),
		gnode(api.OpSplit, api.Setting{Axis: 1}, list(5, -1), list(6, 7), 11))
	g.Vals[1] = constant(whole(nil, 5))
	return g
}

// refuses: Of answers that error at that place, and nothing beside it.
func refuses(t *testing.T, what string, g api.Graph, err api.Errno, at int) {
	t.Helper()
	got, gotErr, gotAt := infer.Of(g)
	if gotErr != err || gotAt != at {
		t.Errorf("%s: %v at %d, want %v at %d", what, gotErr, gotAt, err, at)
	}
	if got.Vals != nil || got.Nodes != nil || got.Inputs != nil || got.Outputs != nil {
		t.Errorf("%s: beside %v: %s", what, err, short(got))
	}
	if graph.Check(g) == api.OK {
		if _, gotErr, gotAt = wantOf(g); gotErr != err || gotAt != at {
			t.Errorf("%s: the second writing has %v at %d, want %v at %d", what, gotErr, gotAt, err, at)
		}
	}
}

// takes: Of answers the graph, its values in these words.
func takes(t *testing.T, what string, g api.Graph, want string) {
	t.Helper()
	got, err, at := infer.Of(g)
	if err != api.OK || at != 0 {
		t.Errorf("%s: %v at %d", what, err, at)
		return
	}
	if tells := words(got.Vals, api.OK); tells != want {
		t.Errorf("%s: %s, want %s", what, tells, want)
	}
	if second, err, at := wantOf(g); err != api.OK || at != 0 || !alike(got, second) {
		t.Errorf("%s: %s, the second writing has %s, %v at %d", what, short(got), short(second), err, at)
	}
	againTaken(t, got)
}

// P10.3: graphs that are taken.
func TestOf(t *testing.T) {
	takes(t, "nothing", api.Graph{}, "")
	takes(t, "values alone", graphOf("f2 - f9999", nil, nil), "f2 type0: f9999")
	takes(t, "all of it", sane(), "i2 i f2.6 f4 f2.6 f2.6 f2.3 f2.3 type0:")
	takes(t, "an input that is an output", graphOf("f2.3", list(0), list(0, 0)), "f2.3")
	takes(t, "a row", graphOf("f2.3 - -", list(0), list(2), gnode(api.OpTranspose, plain, list(0), list(1), 0), gnode(api.OpShape, plain, list(1), list(2), 1)), "f2.3 f3.2 i2")
	takes(t, "nodes that nothing hangs on", graphOf("b2 -", list(0), nil, gnode(api.OpNot, plain, list(0), list(1), 0)), "b2 b2")
	takes(t, "values in any order", graphOf("- i0 - f5", list(3, 1), list(0), gnode(api.OpNeg, plain, list(3), list(2), 5), gnode(api.OpGather, plain, list(2, 1), list(0), 4)), "f0 i0 f5 f5")
	takes(t, "one input twice", graphOf("f2.1 -", list(0), list(1), gnode(api.OpAdd, plain, list(0, 0), list(1), 0)), "f2.1 f2.1")
}

// P10.3: all but types and dims of nodes' outputs stays as it is, also what was told of them before, and what nothing asks for.
func TestOfKeeps(t *testing.T) {
	g := sane()
	g.Vals[5] = api.Val{Type: api.Bool, Dims: []int{-7, 9}, T: zeros(api.Int, 2)}
	g.Vals[3].T = api.Tensor{Type: 44, Dims: []int{-1}, F: []uint32{1}, I: []int64{2}, B: []bool{true}}
	g.Vals[8] = api.Val{Type: -3, Dims: []int{-7}, T: zeros(api.Bool, 1)}
	g.Nodes[1].S = api.Setting{Perm: []int{5}, Value: zeros(api.Float, 3)}
	g.Nodes[2].Source = -1 << 40
	got, err, at := infer.Of(g)
	if err != api.OK || at != 0 {
		t.Fatalf("%v at %d", err, at)
	}
	want := graph.Copy(g)
	for i, dims := range map[int][]int{4: {2, 6}, 5: {2, 6}, 6: {2, 3}, 7: {2, 3}} {
		want.Vals[i].Type, want.Vals[i].Dims = api.Float, dims
	}
	if !alike(got, want) {
		t.Errorf("%s, want %s", short(got), short(want))
	}
}

// P10.3: graph.Check's error, ahead of all else.
func TestOfUnsound(t *testing.T) {
	broken := func(change func(*api.Graph)) api.Graph {
		g := sane()
		g.Vals[0].Dims, g.Vals[2].Type, g.Nodes[0].Op = []int{-1}, 3, 99
		change(&g)
		return g
	}
	refuses(t, "no such value", broken(func(g *api.Graph) { g.Outputs[0] = 9 }), api.ErrPlace, -1)
	refuses(t, "an input that is left out of the graph", broken(func(g *api.Graph) { g.Inputs[0] = -1 }), api.ErrPlace, -1)
	refuses(t, "far beyond", broken(func(g *api.Graph) { g.Nodes[0].In[0] = math.MaxInt }), api.ErrPlace, -1)
	refuses(t, "below -1", broken(func(g *api.Graph) { g.Nodes[1].In[1] = -2 }), api.ErrPlace, -1)
	refuses(t, "an input twice", broken(func(g *api.Graph) { g.Inputs[0] = 3 }), api.ErrName, -1)
	refuses(t, "a constant that is an input", broken(func(g *api.Graph) { g.Inputs[0] = 0 }), api.ErrName, -1)
	refuses(t, "an output twice", broken(func(g *api.Graph) { g.Nodes[2].Out[0] = 7 }), api.ErrName, -1)
	refuses(t, "a constant that is an output of a node", broken(func(g *api.Graph) { g.Vals[4].Const = true }), api.ErrName, -1)
	refuses(t, "nothing's value", broken(func(g *api.Graph) { g.Nodes[0].In[0] = 8 }), api.ErrCycle, -1)
	refuses(t, "a value behind", broken(func(g *api.Graph) { g.Nodes[0].In[0] = 7 }), api.ErrCycle, -1)
}

// P10.3: constants and inputs that may not be: of the first one, dims ahead of the type; behind all of them tensors that do not fit.
func TestOfGiven(t *testing.T) {
	for _, at := range []int{0, 1, 2, 3} {
		for _, x := range []struct {
			dims []int
			kind int
			want api.Errno
		}{
			{[]int{-1}, api.Int, api.ErrArg}, {[]int{4097, -1}, api.Float, api.ErrArg}, {[]int{4097}, api.Int, api.ErrSize}, {[]int{64, 65}, api.Float, api.ErrSize}, {make([]int, 9), api.Bool, api.ErrSize},
			{[]int{-1}, 2, api.ErrArg}, {[]int{4097}, 2, api.ErrSize}, {[]int{2}, 2, api.ErrType}, {[]int{2}, api.None, api.ErrType}, {nil, -1, api.ErrType}, {[]int{2}, 8, api.ErrType},
		} {
			g := sane()
			g.Vals[at].Dims, g.Vals[at].Type = x.dims, x.kind
			refuses(t, "a value", g, x.want, -1)
			// Others behind it, a tensor ahead of it and a node do not count.
			for later := at + 1; later <= 3; later++ {
				h := graph.Copy(g)
				h.Vals[later].Dims, h.Vals[later].Type = []int{-1}, 5
				refuses(t, "the first of two values", h, x.want, -1)
				h.Vals[later].Dims = []int{4097}
				refuses(t, "the first of two values", h, x.want, -1)
				h.Vals[later].Dims = nil
				refuses(t, "the first of two values", h, x.want, -1)
			}
			g.Vals[0].T = api.Tensor{}
			g.Nodes[0].Op = 99
			refuses(t, "a value, a tensor and a node", g, x.want, -1)
		}
	}
}

// P10.3: a constant's tensor has its type and dims, and may be.
func TestOfTensors(t *testing.T) {
	for what, change := range map[string]func(*api.Val){
		"none":                 func(v *api.Val) { v.T = api.Tensor{} },
		"another type":         func(v *api.Val) { v.T = zeros(api.Float, 2) },
		"other dims":           func(v *api.Val) { v.T = zeros(api.Int, 3) },
		"another rank":         func(v *api.Val) { v.T = zeros(api.Int, 2, 1) },
		"no dims":              func(v *api.Val) { v.T = zeros(api.Int) },
		"too few elements":     func(v *api.Val) { v.T.I = v.T.I[:1] },
		"too many elements":    func(v *api.Val) { v.T.I = []int64{1, 2, 3} },
		"elements of two":      func(v *api.Val) { v.T.B = []bool{true} },
		"a type that is none":  func(v *api.Val) { v.T.Type = 6 },
		"the value's own type": func(v *api.Val) { v.Type = api.Bool },
		"the value's own dims": func(v *api.Val) { v.Dims = []int{1, 2} },
	} {
		g := sane()
		change(&g.Vals[0])
		refuses(t, what, g, api.ErrShape, -1)
		g.Nodes[0].Op = 99
		refuses(t, what, g, api.ErrShape, -1)
		// Of what is no constant the tensor says nothing.
		g = sane()
		g.Vals[3] = val("i2")
		g.Vals[3].T = whole(list(2), 1, 2)
		if what != "the value's own type" && what != "the value's own dims" {
			change(&g.Vals[3])
			takes(t, what, g, "i2 i f2.6 i2 f2.6 f2.6 f2.3 f2.3 type0:")
		}
	}
	// A constant that nothing asks for counts, too.
	g := sane()
	g.Vals[1].T = zeros(api.Int, 1)
	refuses(t, "a constant of no node", g, api.ErrShape, -1)
}

// P10.3: the error of the first node that is refused, and its Source, whatever that is.
func TestOfNodes(t *testing.T) {
	faults := map[api.Errno]func(*api.GNode){
		api.ErrArg:   func(n *api.GNode) { n.Op = 81 },
		api.ErrType:  func(n *api.GNode) { n.Op, n.In = api.OpNot, n.In[:1] },
		api.ErrAttr:  func(n *api.GNode) { n.Op, n.In, n.S.Axis = api.OpSoftmax, n.In[:1], 9 },
		api.ErrConst: func(n *api.GNode) { n.Op, n.In = api.OpTile, list(2, 11) },
		api.ErrShape: func(n *api.GNode) { n.Op, n.In = api.OpAdd, list(n.In[0], 3) },
		api.ErrSize:  func(n *api.GNode) { n.Op, n.In = api.OpAdd, list(9, 10) },
	}
	for want, spoil := range faults {
		for at := range 2 {
			for _, source := range []int{-5, -1, 0, 3, 1 << 40} {
				g := sane()
				g.Vals = append(g.Vals, vals("f64.1 f65 i2")...)
				g.Inputs = append(g.Inputs, 9, 10, 11)
				spoil(&g.Nodes[at])
				g.Nodes[at].Source = source
				refuses(t, "one node", g, want, source)
				// Another one behind it does not count.
				g.Nodes[2].Op = 0
				refuses(t, "two nodes", g, want, source)
			}
		}
	}
	// A node that nothing hangs on counts, too.
	g := sane()
	g.Outputs = list(2)
	g.Nodes[2].Op, g.Nodes[2].Source = api.OpConstant, 7
	refuses(t, "a node that is not live", g, api.ErrArg, 7)
}

// P10.3: what a node makes is no constant, even if it hangs on constants alone; nor is an input.
func TestOfConst(t *testing.T) {
	shapes := graphOf("f2.3 t2,3 - -", list(0), list(3), gnode(api.OpShape, plain, list(0), list(2), 0), gnode(api.OpReshape, plain, list(0, 2), list(3), 1))
	refuses(t, "a shape that was told", shapes, api.ErrConst, 1)
	copies := graphOf("f2.3 t2,3 - -", list(0), list(3), gnode(api.OpIdentity, plain, list(1), list(2), 0), gnode(api.OpReshape, plain, list(0, 2), list(3), 1))
	refuses(t, "a copy of a constant", copies, api.ErrConst, 1)
	copies.Vals[2] = constant(whole(list(2), 2, 3))
	copies.Vals[2].Const = false
	refuses(t, "a copy with its tensor", copies, api.ErrConst, 1)
	given := graphOf("f2.3 i2 - -", list(0, 1), list(3), gnode(api.OpReshape, plain, list(0, 1), list(3), 4))
	given.Vals[1].T = whole(list(2), 3, 2)
	refuses(t, "an input with a tensor", given, api.ErrConst, 4)
}

// P10.3: as many inputs and outputs as a node has numbers of.
func TestOfArity(t *testing.T) {
	for outs := range 4 {
		g := graphOf("f6 - - - -", list(0), list(0), gnode(api.OpSplit, plain, list(0), list(1, 2, 3)[:outs], 2))
		if outs == 0 {
			refuses(t, "no outputs", g, api.ErrArg, 2)
			continue
		}
		takes(t, "parts", g, map[int]string{1: "f6 f6 type0: type0: type0:", 2: "f6 f3 f3 type0: type0:", 3: "f6 f2 f2 f2 type0:"}[outs])
		g.Nodes[0].Op = api.OpRelu
		if outs > 1 {
			refuses(t, "too many outputs", g, api.ErrArg, 2)
		}
	}
	for ins := range 5 {
		g := graphOf("f6 f f -", list(0, 1, 2), list(0), gnode(api.OpClip, plain, list(0, 1, 2, 2)[:ins], list(3), 2))
		if ins == 0 || ins == 4 {
			refuses(t, "inputs", g, api.ErrArg, 2)
			continue
		}
		takes(t, "inputs", g, "f6 f f f6")
		g.Nodes[0].In[0] = -1
		refuses(t, "the first one left out", g, api.ErrArg, 2)
	}
}

// P10.3: models as graph.Build makes them.
func TestOfModels(t *testing.T) {
	m := api.Model{Opset: 17, Inputs: []api.Value{{Name: "x", Type: api.Float, Dims: []int{4}}}, Outputs: []api.Value{{Name: "y", Type: api.Float}}}
	m.Nodes = []api.Node{
		{Op: "ReduceSum", In: []string{"s"}, Out: []string{"y"}, Attrs: []api.Attr{{Name: "keepdims", Kind: api.AttrInt}}},
		{Op: "Mul", In: []string{"x", "x"}, Out: []string{"s"}},
		{Op: "Constant", Out: []string{"c"}, Attrs: []api.Attr{{Name: "value_ints", Kind: api.AttrInts, Ints: []int64{2, -1}}}},
		{Op: "Reshape", In: []string{"s", "c"}, Out: []string{"r"}},
	}
	g, err, at := graph.Build(m)
	if err != api.OK {
		t.Fatalf("%v at %d", err, at)
	}
	takes(t, "a model", g, "f4 f f4 i2 f2.2")
	m.Nodes[3].In[1] = "x"
	g, _, _ = graph.Build(m)
	refuses(t, "a told list of floats", g, api.ErrType, 3)
	m.Nodes[0].In = []string{"s", "s"}
	g, _, _ = graph.Build(m)
	refuses(t, "the first node in the graph's order", g, api.ErrType, 0)
	sources := []int{}
	for _, n := range g.Nodes {
		sources = append(sources, n.Source)
	}
	if !slices.Equal(sources, list(1, 0, 3)) {
		t.Errorf("another order: %v", sources)
	}
}
