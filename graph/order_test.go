package graph_test

import (
	"fmt"
	"slices"
	"strings"
	"testing"

	"lattice/api"
	"lattice/graph"
)

// P9.1: of the nodes that could stand next the one with the least Source does, at each step again.
func TestOrder(t *testing.T) {
	relu := func(in, out string) api.Node { return node("Relu", in, out) }
	concat := func(in, out string) api.Node { return node("Concat", in, out, number("axis", 0)) }
	for _, x := range []struct {
		what  string
		nodes []api.Node
		want  []int
	}{
		{"none", nil, []int{}},
		{"free ones", []api.Node{relu("x", "a"), relu("c", "b"), relu("x", "e")}, []int{0, 1, 2}},
		{"a row", []api.Node{relu("x", "a"), relu("a", "b"), relu("b", "e")}, []int{0, 1, 2}},
		{"a row backwards", []api.Node{relu("b", "e"), relu("a", "b"), relu("x", "a")}, []int{2, 1, 0}},
		{"what becomes ready goes ahead of what was ready", []api.Node{relu("e", "a"), relu("x", "b"), relu("x", "d"), relu("x", "e"), relu("x", "f")}, []int{1, 2, 3, 0, 4}},
		{"free ones ahead of those that wait", []api.Node{relu("f", "a"), relu("a", "b"), relu("x", "d"), relu("x", "e"), relu("e", "f")}, []int{2, 3, 4, 0, 1}},
		{"two rows", []api.Node{relu("b", "a"), relu("d", "b"), relu("f", "e"), relu("x", "f"), relu("x", "d")}, []int{3, 2, 4, 1, 0}},
		{"one that waits for many", []api.Node{concat("a b d", "e"), relu("x", "b"), relu("b", "a"), relu("x", "d")}, []int{1, 2, 3, 0}},
		{"one input ready is not enough", []api.Node{concat("x c x a", "e"), relu("x", "f"), relu("x", "a"), relu("x", "g")}, []int{1, 2, 0, 3}},
		{"left out is nothing to wait for", []api.Node{concat("x - - c", "e"), relu("x", "f")}, []int{0, 1}},
		{"a square", []api.Node{concat("b d", "e"), relu("a", "d"), relu("a", "b"), relu("x", "a")}, []int{3, 1, 2, 0}},
		{"one for two", []api.Node{relu("q", "a"), node("Split", "b", "p q"), relu("p", "e"), relu("x", "b")}, []int{3, 1, 0, 2}},
		{"one twice", []api.Node{concat("a a", "b"), relu("x", "a")}, []int{1, 0}},
	} {
		g := built(t, model("c", "x", "x", x.nodes...))
		if got := sources(g); !slices.Equal(got, x.want) {
			t.Errorf("%s: %d, want %d", x.what, got, x.want)
		}
		if err := graph.Check(g); err != api.OK {
			t.Errorf("%s: Check: %v", x.what, err)
		}
	}
}

// P9.1: values are numbered by the model's order, not by the graph's.
func TestNumbers(t *testing.T) {
	g := built(t, model("c d", "x z w", "e", node("Split", "q a", "e f"), told("k", 3), node("Add", "k x", "a"), node("Split", "z", "p q r")))
	if want := "2 [7 2] [8] 3 [3] [9 10 11] 0 [10 8] [5 6]"; links(g) != want {
		t.Errorf("%s, want %s", links(g), want)
	}
	if len(g.Vals) != 12 || !slices.Equal(g.Inputs, []int{2, 3, 4}) || !slices.Equal(g.Outputs, []int{5}) {
		t.Errorf("%s", short(g))
	}
	for v, val := range g.Vals {
		want := api.Val{}
		switch v {
		case 0, 1:
			want = api.Val{Type: api.Int, Const: true, T: whole(int64(v))}
		case 2, 3, 4:
			want = api.Val{Type: api.Float, Dims: []int{v - 1}}
		case 7:
			want = api.Val{Type: api.Int, Const: true, T: whole(3)}
		}
		if !alike(val, want) {
			t.Errorf("value %d: %s, want %s", v, short(val), short(want))
		}
	}
}

// P9.1: a node has the operator and the setting that ops tells.
func TestSettings(t *testing.T) {
	nan := api.Tensor{Type: api.Float, Dims: []int{1}, F: []uint32{0x7F800001}}
	perm := api.Attr{Name: "perm", Kind: api.AttrInts, Ints: []int64{1, 0}}
	m := model("c", "x", "x",
		node("Cast", "a", "b", number("to", api.Bool)),
		node("Transpose", "x", "a", perm),
		node("ConstantOfShape", "c", "d", tensor("value", nan)),
		node("LeakyRelu", "x", "e"),
		node("Gemm", "x x", "f", number("transB", 1)))
	want := []api.GNode{
		{Op: api.OpTranspose, S: api.Setting{Perm: []int{1, 0}, HasPerm: true}, In: list(1), Out: list(3), Source: 1},
		{Op: api.OpCast, S: api.Setting{To: api.Bool}, In: list(3), Out: list(2), Source: 0},
		{Op: api.OpConstantOfShape, S: api.Setting{Value: nan}, In: list(0), Out: list(4), Source: 2},
		{Op: api.OpLeakyRelu, S: api.Setting{Alpha: 0x3C23D70A}, In: list(1), Out: list(5), Source: 3},
		{Op: api.OpGemm, S: api.Setting{Alpha: api.FloatOne, Beta: api.FloatOne, TransB: true}, In: list(1, 1), Out: list(6), Source: 4},
	}
	if g := built(t, m); !alike(g.Nodes, want) {
		t.Errorf("%s, want %s", short(g.Nodes), short(want))
	}
}

// ring is nodes that wait for one another, each for the next one.
func ring(n int) []api.Node {
	var nodes []api.Node
	for i := range n {
		nodes = append(nodes, node("Relu", fmt.Sprint("ring", (i+1)%n), fmt.Sprint("ring", i)))
	}
	return nodes
}

// P9.1: rings of any length, beside nodes that wait for nothing of them; the least node of the ring is told.
func TestRings(t *testing.T) {
	free := []api.Node{node("Relu", "x", "a"), node("Relu", "a", "b"), told("k", 1), node("Clip", "x - k", "d")}
	for _, n := range []int{1, 2, 3, 4, 7, 64} {
		for ahead := range len(free) + 1 {
			m := model("c", "x", "x", slices.Concat(free[:ahead], ring(n), free[ahead:])...)
			refuses(t, m, api.ErrCycle, ahead)
			slices.Reverse(m.Nodes)
			refuses(t, m, api.ErrCycle, len(free)-ahead)
		}
	}
	refuses(t, model("", "x", "", ring(api.MaxNodes)...), api.ErrCycle, 0)
}

// P9.1: what the order leaves are all that wait for a ring, not those alone that are in it; those that a ring waits for stand.
func TestBesideRings(t *testing.T) {
	relu := func(in, out string) api.Node { return node("Relu", in, out) }
	add := func(in, out string) api.Node { return node("Add", in, out) }
	for _, x := range []struct {
		what  string
		nodes []api.Node
		at    int
	}{
		{"one that waits for a ring, ahead of it", []api.Node{relu("x", "a"), relu("p", "b"), relu("q", "p"), relu("p", "q")}, 1},
		{"a row that waits for a ring", []api.Node{relu("x", "a"), relu("e", "d"), relu("p", "e"), relu("p", "p")}, 1},
		{"one that a ring waits for, ahead of it", []api.Node{relu("x", "a"), add("q a", "p"), relu("p", "q")}, 1},
		{"one that a ring waits for, behind it", []api.Node{add("q a", "p"), relu("p", "q"), relu("x", "a")}, 0},
		{"one that waits for a ring, and one that does not", []api.Node{relu("x", "a"), relu("a", "b"), relu("b", "d"), relu("p", "p"), relu("p", "e")}, 3},
		{"two rings", []api.Node{relu("x", "a"), relu("r", "r"), relu("q", "p"), relu("p", "q")}, 1},
		{"two rings, the other way round", []api.Node{relu("x", "a"), relu("q", "p"), relu("r", "r"), relu("p", "q")}, 1},
		{"two rings that share a node", []api.Node{relu("x", "a"), relu("p", "b"), relu("p", "d"), add("b d", "p")}, 1},
		{"a ring through one of more inputs", []api.Node{relu("x", "a"), node("Clip", "x a b", "b")}, 1},
		{"a ring through one of more outputs", []api.Node{relu("x", "a"), relu("q", "b"), node("Split", "b", "p q")}, 1},
		{"a ring that nothing hangs on", []api.Node{relu("x", "y"), relu("p", "p")}, 1},
		{"a node that waits for a ring by an output that is no ring's", []api.Node{relu("x", "a"), relu("p", "b"), node("Split", "q", "p q")}, 1},
	} {
		m := model("c", "x", "x", x.nodes...)
		before := t.Failed()
		refuses(t, m, api.ErrCycle, x.at)
		if t.Failed() && !before {
			t.Log(x.what)
		}
	}
}

// P9.1: as many nodes as may be, with as many inputs as may be, each waiting for those behind it.
func TestGreatModels(t *testing.T) {
	name := func(i int) string { return fmt.Sprint("v", i) }
	m := model("", "x", "v0")
	for i := range api.MaxNodes {
		in := []string{"x"}
		for j := i + 1; j < api.MaxNodes && len(in) < api.MaxIn; j++ {
			in = append(in, name(j))
		}
		slices.Reverse(in)
		m.Nodes = append(m.Nodes, node("Concat", strings.Join(in, " "), name(i), number("axis", 0)))
	}
	g := built(t, m)
	for i, n := range g.Nodes {
		if n.Source != api.MaxNodes-1-i {
			t.Fatalf("node %d stands for %d", i, n.Source)
		}
	}
	m.Nodes[api.MaxNodes-1].In[0] = name(500)
	refuses(t, m, api.ErrCycle, 0)
	if live := graph.Live(g); slices.Contains(live, false) || len(live) != api.MaxNodes {
		t.Errorf("not all live")
	}
}
