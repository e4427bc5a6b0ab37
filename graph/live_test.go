package graph_test

import (
	"math"
	"slices"
	"testing"

	"lattice/api"
	"lattice/graph"
)

func lives(t *testing.T, what string, g api.Graph, want ...bool) {
	t.Helper()
	if got := graph.Live(g); !slices.Equal(got, want) {
		t.Errorf("%s: %v, want %v", what, got, want)
	}
	if got := wantLive(g); !slices.Equal(got, want) {
		t.Errorf("%s: the second writing has %v, want %v", what, got, want)
	}
	if got, want := graph.Prune(g), wantPrune(g); !alike(got, want) {
		t.Errorf("%s: Prune: %s, want %s", what, short(got), short(want))
	}
}

// P9.3: of sound graphs.
func TestLive(t *testing.T) {
	row := []api.GNode{op(list(0), list(1)), op(list(1), list(2)), op(list(2), list(3))}
	lives(t, "nothing", api.Graph{})
	lives(t, "no nodes", bare(1, list(0), list(0)))
	lives(t, "no outputs", bare(4, list(0), nil, row...), false, false, false)
	lives(t, "an input as output", bare(4, list(0), list(0), row...), false, false, false)
	lives(t, "the first one's", bare(4, list(0), list(1), row...), true, false, false)
	lives(t, "the second one's", bare(4, list(0), list(2), row...), true, true, false)
	lives(t, "the last one's", bare(4, list(0), list(3), row...), true, true, true)
	lives(t, "two outputs", bare(4, list(0), list(0, 2, 1), row...), true, true, false)
	lives(t, "a node with an output beside that one", bare(6, list(0), list(4), op(list(0), list(1, 2)), op(list(2, -1), list(3, 4, 5)), op(list(3), nil)), true, true, false)
	lives(t, "by its second input", bare(4, list(0), list(3), op(list(0), list(1)), op(list(0), list(2)), op(list(0, 2), list(3))), false, true, true)
	lives(t, "a node that is used by a dead one alone", bare(5, list(0), list(4), op(list(0), list(1)), op(list(1), list(2)), op(list(2), list(3)), op(list(0), list(4))), false, false, false, true)
	lives(t, "a node that is used by a dead one too", bare(4, list(0), list(3), op(list(0), list(1)), op(list(1), list(2)), op(list(1), list(3))), true, false, true)
	lives(t, "a node without outputs", bare(2, list(0), list(1), op(list(0), nil), op(list(0), list(1))), false, true)
	lives(t, "a square", bare(5, list(0), list(4), op(list(0), list(1)), op(list(1), list(2)), op(list(1), list(3)), op(list(2, 3), list(4))), true, true, true, true)
	lives(t, "all of it", sound(), true, true, true)
}

// P9.3: of graphs that are not sound the same words hold.
func TestLiveNotSound(t *testing.T) {
	lives(t, "used by a node ahead of it", bare(3, list(0), list(1), op(list(2), list(1)), op(list(0), list(2))), true, false)
	lives(t, "used by itself", bare(2, nil, nil, op(list(0), list(0))), false)
	lives(t, "used by itself, and an output", bare(2, nil, list(0), op(list(0), list(0))), true)
	lives(t, "a ring", bare(2, nil, list(0), op(list(1), list(0)), op(list(0), list(1))), true, false)
	lives(t, "a ring, the other output", bare(2, nil, list(1), op(list(1), list(0)), op(list(0), list(1))), true, true)
	lives(t, "two nodes with one output", bare(2, list(0), list(1), op(list(0), list(1)), op(list(0), list(1))), true, true)
	lives(t, "two nodes with one output, a node between that uses it", bare(3, list(0), list(2), op(list(0), list(1)), op(list(1), list(2)), op(list(0), list(1))), true, true, false)
	lives(t, "an output that is a constant", with(bare(2, list(0), list(1), op(list(0), list(1))), 1), true)
	lives(t, "an output that is an input", bare(2, list(0, 1), list(1), op(list(0), list(1))), true)
	lives(t, "an output that nothing defines", bare(2, list(0), list(1), op(list(0), nil)), false)
	lives(t, "an input that nothing defines", bare(3, nil, list(1), op(nil, list(0)), op(list(2, 0), list(1))), true, true)
}

// P9.3: whether a number is that of a value is not asked, of -1 no more than of others.
func TestLiveNoPlace(t *testing.T) {
	for _, v := range []int{-1, -2, 3, 4, 1000000, math.MinInt, math.MaxInt} {
		w := v ^ 1<<20
		lives(t, "as an output of the graph", bare(3, nil, list(v), op(nil, list(v))), true)
		lives(t, "as an output of the graph beside others", bare(3, nil, list(w, 0, v), op(nil, list(1, v, 2))), true)
		lives(t, "another output of the graph", bare(3, nil, list(w), op(nil, list(v))), false)
		lives(t, "no output of the graph", bare(3, list(v), nil, op(list(v), list(v))), false)
		lives(t, "as an input of a node", bare(3, nil, list(0), op(nil, list(v)), op(list(v), list(0))), true, true)
		lives(t, "another input of a node", bare(3, nil, list(0), op(nil, list(v)), op(list(w), list(0))), false, true)
		lives(t, "as an input of a node that is not live", bare(3, nil, list(0), op(nil, list(v)), op(list(v), list(1))), false, false)
		lives(t, "as an input of a node ahead", bare(3, nil, list(0), op(list(v), list(0)), op(nil, list(v))), true, false)
		lives(t, "as an input of itself", bare(3, nil, nil, op(list(v), list(v))), false)
		lives(t, "from one to the next", bare(0, nil, list(v), op(list(0), list(5)), op(list(v), list(w)), op(list(w), list(v))), false, true, true)
		lives(t, "beside others", bare(3, list(v, 0), list(2), op(list(0), list(v)), op(nil, list(0)), op(list(w, v, 0), list(1, 2)), op(list(v), list(v))), true, true, true, false)
	}
	lives(t, "no values", bare(0, nil, list(0), op(list(0), list(0))), true)
}

// P9.3: but for the nodes all stays, values that nothing uses any more, too.
func TestPruneKeeps(t *testing.T) {
	m := model("c d", "x z", "y d", node("Add", "t c", "y"), node("Split", "z", "p q"), told("k", 4), node("Relu", "x", "t"), node("Cast", "k", "b", number("to", api.Bool)))
	g := built(t, m)
	if want := []bool{false, true, true, false}; !slices.Equal(sources(g), list(1, 3, 0, 4)) || !slices.Equal(graph.Live(g), want) {
		t.Fatalf("%s: %v", links(g), graph.Live(g))
	}
	p := graph.Prune(g)
	if !alike(p.Vals, g.Vals) || !alike(p.Inputs, g.Inputs) || !alike(p.Outputs, g.Outputs) || !alike(p.Nodes, g.Nodes[1:3]) {
		t.Errorf("%s of %s", short(p), short(g))
	}
	if graph.Check(p) != api.OK {
		t.Errorf("%v", graph.Check(p))
	}
}

// filled is a graph in which each field of each kind holds something.
func filled() api.Graph {
	t := func(n int) api.Tensor {
		return api.Tensor{Type: n, Dims: []int{n, n + 1}, F: []uint32{uint32(n), 0x7F800001}, I: []int64{int64(n)}, B: []bool{n%2 == 0, true}}
	}
	s := api.Setting{
		Axis: 1, Axes: []int{2, 3}, HasAxes: true, Keep: true, Noop: true, Last: true, Zero: true,
		Perm: []int{4}, HasPerm: true, Alpha: 5, Beta: 6, Epsilon: 7, Low: true, High: true, Fmod: true,
		To: 8, Mode: 9, TransA: true, TransB: true, Group: 10, Kernel: []int{11}, Strides: []int{12, 13},
		Pads: []int{14}, Dilations: []int{15}, Auto: 16, Ceil: true, Count: true, Block: 17, Start: 18, End: 19, HasEnd: true,
		Value: t(20),
	}
	return api.Graph{
		Vals:    []api.Val{{Type: 21, Dims: []int{22}, Const: true, T: t(23)}, {Type: 24, Dims: []int{25, 26}, T: t(27)}},
		Nodes:   []api.GNode{{Op: 28, S: s, In: []int{1, 29}, Out: []int{0, 30}, Source: 31}, {Op: 32, S: s, In: []int{33}, Out: []int{1}, Source: 34}},
		Inputs:  []int{35, 36},
		Outputs: []int{0, 37},
	}
}

// P9.3: Copy is all of a graph, sound or not, bit for bit.
func TestCopy(t *testing.T) {
	for _, g := range []api.Graph{{}, sound(), filled(), bare(3, nil, nil), bare(0, list(7), list(-9), op(list(-5), list(12)))} {
		if got := graph.Copy(g); !alike(got, g) {
			t.Errorf("%s, want %s", short(got), short(g))
		}
	}
	g := filled()
	if want := wantPrune(g); len(want.Nodes) != 1 || !alike(graph.Prune(g), want) {
		t.Errorf("%s, want %s", short(graph.Prune(g)), short(want))
	}
}
