package graph_test

import (
	"fmt"
	"slices"
	"strings"
	"testing"

	"lattice/api"
	"lattice/seeds"
)

// fault is one way to make a model wrong. Its rank tells which of two is told: that of the lesser one; of one rank that at the lesser node.
type fault struct {
	what string
	rank int
	at   int
	err  api.Errno
	do   func(m *api.Model)
}

const (
	rankModel    = 1
	rankOperator = 2
	rankGiven    = 3 // names of constants and inputs
	rankPutOut   = 4 // names of nodes' outputs
	rankAsked    = 5 // names of nodes' inputs
	rankAnswer   = 6 // names of the model's outputs
	rankRing     = 7
)

// faultNodes is how many nodes the model has that faults of nodes are made in; behind them stand two that faults of the whole are made in.
const faultNodes = 7

// sane is a model of nodes of which none hangs on another one, so that a fault in one is none in the others.
func sane() api.Model {
	m := model("c d e", "x y z", "c x r0")
	for i := range faultNodes + 2 {
		m.Nodes = append(m.Nodes, node("Clip", "x", fmt.Sprint("r", i)))
	}
	return m
}

// wholeFaults are those that are none of the nodes'.
func wholeFaults() []fault {
	return []fault{
		{"opset", rankModel, -1, api.ErrArg, func(m *api.Model) { m.Opset = 16 }},
		{"no operator", rankModel, -1, api.ErrArg, func(m *api.Model) { m.Nodes[faultNodes].Op = "" }},
		{"an attribute of no kind", rankModel, -1, api.ErrArg, func(m *api.Model) { m.Nodes[faultNodes+1].Attrs = make([]api.Attr, 1) }},
		{"a constant without its element", rankModel, -1, api.ErrArg, func(m *api.Model) { m.Inits[0].T.I = nil }},
		{"an input of no type", rankModel, -1, api.ErrArg, func(m *api.Model) { m.Inputs[0].Type = api.None }},
		{"an output's dim below 0", rankModel, -1, api.ErrArg, func(m *api.Model) { m.Outputs[0].Dims = []int{-1} }},
		{"a constant's name empty", rankGiven, -1, api.ErrName, func(m *api.Model) { m.Inits[1].Name = "" }},
		{"an input's name empty", rankGiven, -1, api.ErrName, func(m *api.Model) { m.Inputs[1].Name = "" }},
		{"constants of one name", rankGiven, -1, api.ErrName, func(m *api.Model) { m.Inits[2].Name = "c" }},
		{"inputs of one name", rankGiven, -1, api.ErrName, func(m *api.Model) { m.Inputs[2].Name = "x" }},
		{"a constant and an input of one name", rankGiven, -1, api.ErrName, func(m *api.Model) { m.Inits[1].Name = "y" }},
		{"an output that nothing has", rankAnswer, -1, api.ErrName, func(m *api.Model) { m.Outputs[1].Name = "nothing" }},
		{"an output's name empty", rankAnswer, -1, api.ErrName, func(m *api.Model) { m.Outputs[2].Name = "" }},
	}
}

// nodeFaults are those of a node.
func nodeFaults(i int) []fault {
	own := fmt.Sprint("r", i)
	make := func(what string, rank int, err api.Errno, do func(n *api.Node)) fault {
		return fault{fmt.Sprint("node ", i, ": ", what), rank, i, err, func(m *api.Model) { do(&m.Nodes[i]) }}
	}
	return []fault{
		make("an operator that is not known", rankOperator, api.ErrUnsupported, func(n *api.Node) { n.Op = "Foo" }),
		make("no inputs", rankOperator, api.ErrArg, func(n *api.Node) { n.In = nil }),
		make("an input that must be there left out", rankOperator, api.ErrArg, func(n *api.Node) { n.In[0] = "" }),
		make("an output without a name", rankOperator, api.ErrArg, func(n *api.Node) { n.Out[0] = "" }),
		make("an attribute that is not known", rankOperator, api.ErrAttr, func(n *api.Node) { n.Attrs = []api.Attr{number("axis", 0)} }),
		make("a constant's name", rankPutOut, api.ErrName, func(n *api.Node) { n.Out[0] = "c" }),
		make("an input's name", rankPutOut, api.ErrName, func(n *api.Node) { n.Out[0] = "x" }),
		make("its own name twice", rankPutOut, api.ErrName, func(n *api.Node) { n.Op, n.Out = "Split", []string{own, own} }),
		make("an input that nothing has", rankAsked, api.ErrName, func(n *api.Node) { n.In[0] = "nothing" }),
		make("a third input that nothing has", rankAsked, api.ErrName, func(n *api.Node) { n.In = []string{"x", "", "nothing"} }),
		make("a ring of one", rankRing, api.ErrCycle, func(n *api.Node) { n.In[0] = own }),
		make("a ring of one by its second input", rankRing, api.ErrCycle, func(n *api.Node) { n.In = []string{"x", own} }),
	}
}

func allFaults() []fault {
	all := wholeFaults()
	for i := range faultNodes {
		all = append(all, nodeFaults(i)...)
	}
	return all
}

// first is the fault that is told of some.
func first(all []fault) fault {
	return slices.MinFunc(all, func(a, b fault) int {
		if a.rank != b.rank {
			return a.rank - b.rank
		}
		return a.at - b.at
	})
}

// clash: are two faults of one node, so that one may undo the other?
func clash(a, b fault) bool { return a.at == b.at && a.at >= 0 }

// checkFaults makes a model wrong in all those ways.
func checkFaults(t *testing.T, all ...fault) {
	t.Helper()
	m := sane()
	for _, f := range all {
		f.do(&m)
	}
	want := first(all)
	before := t.Failed()
	refuses(t, m, want.err, want.at)
	if t.Failed() && !before {
		for _, f := range all {
			t.Log(f.what)
		}
	}
}

// P9.1: each of the errors alone.
func TestEachError(t *testing.T) {
	refuses(t, sane(), api.OK, 0)
	for _, f := range allFaults() {
		checkFaults(t, f)
	}
}

// P9.1, R2: of two errors the one that is named first, at the lesser node, whichever was made first.
func TestTwoErrors(t *testing.T) {
	all := allFaults()
	for i, a := range all {
		for _, b := range all[i+1:] {
			if !clash(a, b) {
				checkFaults(t, a, b)
			}
		}
	}
}

// P9.1, R2: of many likewise.
func TestManyErrors(t *testing.T) {
	s := seeds.Seed(91)
	all := allFaults()
	for range 20000 {
		var some []fault
		for range 2 + s.Below(6) {
			f := all[s.Below(len(all))]
			if !slices.ContainsFunc(some, func(other fault) bool { return clash(f, other) }) {
				some = append(some, f)
			}
		}
		checkFaults(t, some...)
	}
}

// P9.1: what onnx.Check finds too much is told by its own error, ahead of all else.
func TestTooMuch(t *testing.T) {
	long := strings.Repeat("n", api.MaxName+1)
	for _, do := range []func(m *api.Model){
		func(m *api.Model) { m.Nodes = slices.Repeat(m.Nodes[:1], api.MaxNodes+1) },
		func(m *api.Model) { m.Inits = slices.Repeat(m.Inits[:1], api.MaxNodes+1) },
		func(m *api.Model) { m.Inputs = slices.Repeat(m.Inputs[:1], api.MaxIn+1) },
		func(m *api.Model) { m.Outputs = slices.Repeat(m.Outputs[:1], api.MaxIn+1) },
		func(m *api.Model) { m.Nodes[3].In = slices.Repeat([]string{"x"}, api.MaxIn+1) },
		func(m *api.Model) { m.Nodes[3].Out = slices.Repeat([]string{"x"}, api.MaxIn+1) },
		func(m *api.Model) { m.Nodes[3].In[0] = long },
		func(m *api.Model) { m.Inits[0].Name = long },
		func(m *api.Model) { m.Inputs[0].Dims = []int{api.MaxElems + 1} },
	} {
		m := sane()
		do(&m)
		refuses(t, m, api.ErrLimit, -1)
		m.Opset = 16
		refuses(t, m, api.ErrArg, -1)
	}
}

// P9.1: the first node that is refused counts, not the error that ops would name first.
func TestFirstRefused(t *testing.T) {
	m := sane()
	m.Nodes[5].Op, m.Nodes[3].Attrs, m.Nodes[4].In = "Foo", []api.Attr{number("none", 1)}, nil
	refuses(t, m, api.ErrAttr, 3)
	m.Nodes[2].Out = append(m.Nodes[2].Out, "more")
	refuses(t, m, api.ErrArg, 2)
	m.Nodes[0].Op = "Bar"
	refuses(t, m, api.ErrUnsupported, 0)
	m.Nodes[0].Op, m.Nodes[0].In, m.Nodes[0].Attrs = "Clip", nil, []api.Attr{number("none", 1)}
	refuses(t, m, api.ErrArg, 0)
}
