package graph_test

import (
	"fmt"
	"slices"
	"strings"
	"testing"

	"lattice/api"
	"lattice/graph"
)

// P9.1: names of constants and inputs that are empty, or stand twice, wherever they stand.
func TestGivenNames(t *testing.T) {
	for _, x := range []struct{ consts, inputs string }{
		{"-", ""}, {"", "-"}, {"- a", "b"}, {"a -", "b"}, {"a", "- b"}, {"a", "b -"}, {"-", "-"}, {"- -", ""}, {"", "- -"},
		{"a a", ""}, {"a b a", ""}, {"a b b", "c"}, {"b a a", "c"},
		{"", "a a"}, {"", "a b a"}, {"c", "a b b"}, {"c", "b a a"},
		{"a", "a"}, {"a b", "c a"}, {"a b", "b c"}, {"a b", "c b"}, {"b a", "a c"},
	} {
		m := model(x.consts, x.inputs, "")
		refuses(t, m, api.ErrName, -1)
		// Ahead of what is wrong with the names of nodes and outputs.
		m.Nodes = []api.Node{node("Relu", "nothing", "a"), node("Relu", "r", "r")}
		m.Outputs = []api.Value{{Name: "nothing", Type: api.Int}}
		refuses(t, m, api.ErrName, -1)
		// Behind what ops refuses.
		m.Nodes = append(m.Nodes, node("Foo", "", ""))
		refuses(t, m, api.ErrUnsupported, 2)
	}
	refuses(t, model("a A aa", "b  B bb", "a A aa b B bb"), api.OK, 0)
}

// P9.1: a node's output with a name that a constant, an input, a node ahead or an output of its own ahead has.
func TestPutOutNames(t *testing.T) {
	relu := func(out string) api.Node { return node("Relu", "x", out) }
	split := func(out string) api.Node { return node("Split", "x", out) }
	for _, x := range []struct {
		nodes []api.Node
		at    int
	}{
		{[]api.Node{relu("c")}, 0},
		{[]api.Node{relu("d")}, 0},
		{[]api.Node{relu("x")}, 0},
		{[]api.Node{relu("z")}, 0},
		{[]api.Node{relu("a"), relu("a")}, 1},
		{[]api.Node{relu("a"), relu("b"), relu("a")}, 2},
		{[]api.Node{relu("a"), relu("b"), relu("b"), relu("a")}, 2},
		{[]api.Node{split("a a")}, 0},
		{[]api.Node{relu("r"), split("a b a")}, 1},
		{[]api.Node{relu("r"), split("a b b")}, 1},
		{[]api.Node{split("a b"), relu("b")}, 1},
		{[]api.Node{relu("b"), split("a b")}, 1},
		{[]api.Node{split("a b"), split("e a")}, 1},
		{[]api.Node{split("a b"), split("e f"), split("g h x"), relu("a")}, 2},
		{[]api.Node{told("c", 1)}, 0},
		{[]api.Node{told("a", 1), told("a", 1)}, 1},
		{[]api.Node{told("a", 1), relu("a")}, 1},
		{[]api.Node{relu("a"), told("a", 1)}, 1},
		{[]api.Node{relu("a"), relu("c"), relu("a")}, 1},
	} {
		m := model("c d", "x z", "x", x.nodes...)
		refuses(t, m, api.ErrName, x.at)
		// Ahead of inputs that nothing has, in nodes ahead, too, and of outputs that nothing has.
		m.Nodes[0] = node("Split", "nothing", strings.Join(m.Nodes[0].Out, " "))
		m.Outputs[0].Name = "nothing"
		refuses(t, m, api.ErrName, x.at)
	}
}

// P9.1: a node's input with a name that nothing has; what a node ahead, behind or it itself puts out is there.
func TestAskedNames(t *testing.T) {
	for _, x := range []struct {
		in  string
		err api.Errno
	}{
		{"x nothing", api.ErrName},
		{"nothing x", api.ErrName},
		{"x - nothing", api.ErrName},
		{"x nothing -", api.ErrName},
		{"x X x", api.ErrName},
		{"x xx x", api.ErrName},
		{"c x", api.OK},
		{"x c", api.OK},
		{"x - c", api.OK},
		{"x - -", api.OK},
		{"x -", api.OK},
		{"x", api.OK},
		{"x x x", api.OK},
		{"ahead behind k", api.OK},
		{"behind - k", api.OK},
	} {
		m := model("c", "x", "y", node("Relu", "c", "ahead"), node("Clip", x.in, "y"), node("Relu", "x", "behind"), told("k", 4))
		at := 0
		if x.err != api.OK {
			at = 1
		}
		refuses(t, m, x.err, at)
	}
}

// P9.1: of more than one input that nothing has the first node counts; the model's outputs come behind all nodes, rings behind these.
func TestAskedNamesOrder(t *testing.T) {
	m := model("", "x", "y nothing", node("Relu", "a", "a"), node("Relu", "x", "y"), node("Relu", "p", "b"), node("Relu", "q", "d"))
	refuses(t, m, api.ErrName, 2)
	m.Nodes[2].In[0] = "x"
	refuses(t, m, api.ErrName, 3)
	m.Nodes[3].In[0] = "a"
	refuses(t, m, api.ErrName, -1)
	m.Outputs[1].Name = ""
	refuses(t, m, api.ErrName, -1)
	m.Outputs[1].Name = "d"
	refuses(t, m, api.ErrCycle, 0)
	m.Nodes[0].In[0] = "x"
	refuses(t, m, api.OK, 0)
}

// P9.1: inputs that are left out are -1, at their place; the others are their values' numbers.
func TestLeftOut(t *testing.T) {
	g := built(t, model("c d", "x z", "a", node("Clip", "x - d", "a"), node("Clip", "z d -", "b"), node("Slice", "x c d - c", "e"), node("Concat", "x - - z -", "f", number("axis", 0)), node("Clip", "a", "h")))
	if want := "0[2 -1 1][4] 1[3 1 -1][5] 2[2 0 1 -1 0][6] 3[2 -1 -1 3 -1][7] 4[4][8]"; strings.ReplaceAll(links(g), " [", "[") != want {
		t.Errorf("%s, want %s", links(g), want)
	}
}

// P9.1: outputs of the model may be constants, inputs, any output of a node, and each more than once; all have their numbers, in order.
func TestModelOutputs(t *testing.T) {
	m := model("c d", "x z", "q d z k x c p y y x", node("Relu", "p", "y"), told("k", 1), node("Split", "x", "p q"))
	g := built(t, m)
	if want := []int{7, 1, 3, 5, 2, 0, 6, 4, 4, 2}; !slices.Equal(g.Outputs, want) {
		t.Errorf("outputs %d, want %d", g.Outputs, want)
	}
	if want := []int{2, 3}; !slices.Equal(g.Inputs, want) {
		t.Errorf("inputs %d, want %d", g.Inputs, want)
	}
	if want := "2 [2] [6 7] 0 [6] [4]"; links(g) != want {
		t.Errorf("%s, want %s", links(g), want)
	}
}

// P9.1: what an output is declared as is not asked, and is not in the graph.
func TestDeclared(t *testing.T) {
	m := model("c", "x", "c x y", node("Relu", "x", "y"))
	want := built(t, m)
	for i := range m.Outputs {
		m.Outputs[i].Type, m.Outputs[i].Dims = api.Bool, []int{2, 3}
	}
	if g := built(t, m); !alike(g, want) {
		t.Errorf("%s, want %s", short(g), short(want))
	}
}

// P9.1: names are rows of bytes, of up to MaxName; unlike bytes are unlike names. The names of the model and of nodes say nothing.
func TestNamesAreBytes(t *testing.T) {
	long := strings.Repeat("n", api.MaxName-1)
	odd := []string{" ", "\x00", "\xff", "\xfe", "\xff\xff", "\u00e9", "e\u0301", "-", "0", long + "a", long + "b", "x ", "X"}
	m := model("", "x", "")
	for _, name := range odd {
		m.Nodes = append(m.Nodes, api.Node{Op: "Relu", Name: "n", In: []string{"x"}, Out: []string{name}})
		m.Outputs = append(m.Outputs, api.Value{Name: name, Type: api.Float})
	}
	want := built(t, m)
	for i := range odd {
		if want.Outputs[i] != i+1 || want.Nodes[i].Out[0] != i+1 {
			t.Errorf("%q: %d of %s", odd[i], want.Outputs[i], links(want))
		}
	}
	m.Name = "x"
	for i := range m.Nodes {
		m.Nodes[i].Name = fmt.Sprint("x", i/2)
	}
	m.Nodes[0].Name = "x"
	if g := built(t, m); !alike(g, want) {
		t.Errorf("%s, want %s", short(g), short(want))
	}
	m.Nodes[4].Out[0] = odd[9]
	refuses(t, m, api.ErrName, 9)
}

// P9.1: models of almost nothing.
func TestAlmostNothing(t *testing.T) {
	refuses(t, api.Model{}, api.ErrArg, -1)
	refuses(t, api.Model{Opset: 17, Nodes: make([]api.Node, 1)}, api.ErrArg, -1)
	refuses(t, api.Model{Opset: 17, Inits: make([]api.Init, 1)}, api.ErrArg, -1)
	refuses(t, api.Model{Opset: 17, Outputs: []api.Value{{Type: api.Float}}}, api.ErrName, -1)
	for _, m := range []api.Model{
		{Opset: 17},
		{Opset: 17, Nodes: []api.Node{}, Inits: []api.Init{}, Inputs: []api.Value{}, Outputs: []api.Value{}},
	} {
		if g := built(t, m); !alike(g, api.Graph{}) {
			t.Errorf("%s", short(g))
		}
	}
	g := built(t, model("", "x", "x"))
	if want := bare(1, list(0), list(0)); !alike(g.Nodes, want.Nodes) || !alike(g.Inputs, want.Inputs) || !alike(g.Outputs, want.Outputs) {
		t.Errorf("%s", short(g))
	}
	if g := built(t, model("c", "", "")); len(g.Vals) != 1 || graph.Check(g) != api.OK {
		t.Errorf("%s", short(g))
	}
}
