package graph_test

import (
	"math"
	"slices"
	"testing"

	"lattice/api"
	"lattice/graph"
)

// sound is a graph of which each part is wrong in some test: 0 a constant, 1 and 2 inputs, 3 to 6 of nodes, 7 nothing's.
func sound() api.Graph {
	return with(bare(8, list(1, 2), list(6, 0, 2),
		op(list(1, -1, 0), list(3)),
		op(list(3, 3), list(4, 5)),
		op(list(-1, 4, 2), list(6))), 0)
}

func checks(t *testing.T, what string, g api.Graph, want api.Errno) {
	t.Helper()
	if got := graph.Check(g); got != want {
		t.Errorf("%s: %v, want %v", what, got, want)
	}
	if got := wantCheck(g); got != want {
		t.Errorf("%s: the second writing has %v, want %v", what, got, want)
	}
}

// P9.2: graphs that are sound.
func TestSound(t *testing.T) {
	checks(t, "nothing", api.Graph{}, api.OK)
	checks(t, "values alone", bare(3, nil, nil), api.OK)
	checks(t, "an input that is an output", bare(1, list(0), list(0, 0)), api.OK)
	checks(t, "a constant that is an output", with(bare(1, nil, list(0)), 0), api.OK)
	checks(t, "a node without anything", bare(0, nil, nil, op(nil, nil)), api.OK)
	checks(t, "a node whose inputs are left out", bare(1, nil, list(0), op(list(-1, -1), list(0))), api.OK)
	checks(t, "a row", bare(3, list(0), list(2), op(list(0), list(1)), op(list(1), list(2))), api.OK)
	checks(t, "nodes that nothing hangs on", bare(3, list(0), nil, op(list(0), list(1)), op(list(1), list(2))), api.OK)
	checks(t, "all of it", sound(), api.OK)
}

// P9.2: operators, settings, types and tensors are not looked at, nor is Source.
func TestNotLookedAt(t *testing.T) {
	g := sound()
	for i := range g.Nodes {
		g.Nodes[i].Op, g.Nodes[i].Source = []int{-1, 0, 81}[i], -5
		g.Nodes[i].S = api.Setting{Axis: 99, Perm: []int{7, 7}, Value: api.Tensor{Type: 3, Dims: []int{-1}}}
	}
	for i := range g.Vals {
		g.Vals[i].Type, g.Vals[i].Dims, g.Vals[i].T = 17, []int{-3}, api.Tensor{Type: 2, F: []uint32{1}, I: []int64{2}}
	}
	checks(t, "strange insides", g, api.OK)
	g.Outputs[0] = 7
	checks(t, "strange insides, and an output of nothing", g, api.ErrCycle)
}

// places are ways to put a number into each place of a sound graph that has one.
func places() map[string]func(*api.Graph, int) {
	return map[string]func(*api.Graph, int){
		"first input of the graph":  func(g *api.Graph, v int) { g.Inputs[0] = v },
		"last input of the graph":   func(g *api.Graph, v int) { g.Inputs[1] = v },
		"first output of the graph": func(g *api.Graph, v int) { g.Outputs[0] = v },
		"last output of the graph":  func(g *api.Graph, v int) { g.Outputs[2] = v },
		"output of the first node":  func(g *api.Graph, v int) { g.Nodes[0].Out[0] = v },
		"second output of a node":   func(g *api.Graph, v int) { g.Nodes[1].Out[1] = v },
		"output of the last node":   func(g *api.Graph, v int) { g.Nodes[2].Out[0] = v },
	}
}

// asked are such of nodes' inputs.
func asked() map[string]func(*api.Graph, int) {
	return map[string]func(*api.Graph, int){
		"first input of the first node": func(g *api.Graph, v int) { g.Nodes[0].In[0] = v },
		"last input of the first node":  func(g *api.Graph, v int) { g.Nodes[0].In[2] = v },
		"input of the second node":      func(g *api.Graph, v int) { g.Nodes[1].In[1] = v },
		"last input of the last node":   func(g *api.Graph, v int) { g.Nodes[2].In[2] = v },
	}
}

// P9.2: a number that is that of no value, in each place; -1 is left out, but of nodes' inputs alone.
func TestNoPlace(t *testing.T) {
	for _, v := range []int{-2, -3, 8, 9, 4096, math.MinInt, math.MaxInt, math.MinInt + 1, math.MaxInt32 + 1, math.MinInt32} {
		for what, put := range places() {
			g := sound()
			put(&g, v)
			checks(t, what, g, api.ErrPlace)
		}
		for what, put := range asked() {
			g := sound()
			put(&g, v)
			checks(t, what, g, api.ErrPlace)
		}
	}
	for what, put := range places() {
		g := sound()
		put(&g, -1)
		checks(t, what, g, api.ErrPlace)
	}
	for what, put := range asked() {
		g := sound()
		put(&g, -1)
		checks(t, what, g, api.OK)
	}
	g := sound()
	g.Vals = g.Vals[:7]
	checks(t, "as many values as are used", g, api.OK)
	g.Vals = g.Vals[:6]
	checks(t, "one value less", g, api.ErrPlace)
	g.Vals = nil
	checks(t, "no values", g, api.ErrPlace)
}

// P9.2: a value that is defined twice, by two of the three ways or by one of them.
func TestDefinedTwice(t *testing.T) {
	node := op(nil, list(0))
	checks(t, "an input that is a constant", with(bare(1, list(0), nil), 0), api.ErrName)
	checks(t, "an output of a node that is a constant", with(bare(1, nil, nil, node), 0), api.ErrName)
	checks(t, "an output of a node that is an input", bare(1, list(0), nil, node), api.ErrName)
	checks(t, "an input twice", bare(1, list(0, 0), nil), api.ErrName)
	checks(t, "an input twice, with others between", bare(3, list(0, 1, 2, 0), nil), api.ErrName)
	checks(t, "two nodes", bare(1, nil, nil, node, node), api.ErrName)
	checks(t, "two nodes with one between", bare(3, nil, nil, op(nil, list(1, 0)), op(nil, list(2)), node), api.ErrName)
	checks(t, "one node twice", bare(1, nil, nil, op(nil, list(0, 0))), api.ErrName)
	checks(t, "one node twice, with one between", bare(2, nil, nil, op(nil, list(0, 1, 0))), api.ErrName)
	checks(t, "by all three", with(bare(1, list(0), nil, node), 0), api.ErrName)
	checks(t, "the last value", bare(9, list(8), nil, op(nil, list(8))), api.ErrName)
	checks(t, "an output twice is no definition", bare(1, list(0), list(0, 0), op(list(0, 0), nil)), api.OK)
	for v := range 7 {
		g := sound()
		g.Nodes = append(g.Nodes, op(nil, list(v)))
		checks(t, "one more node", g, api.ErrName)
		g = sound()
		g.Inputs = append(g.Inputs, v)
		checks(t, "one more input", g, api.ErrName)
		if v > 0 {
			checks(t, "one more constant", with(sound(), v), api.ErrName)
		}
	}
}

// P9.2: what is asked for must be defined ahead.
func TestNotDefined(t *testing.T) {
	checks(t, "an output of nothing", bare(1, nil, list(0)), api.ErrCycle)
	checks(t, "an input of nothing", bare(2, nil, nil, op(list(0), list(1))), api.ErrCycle)
	checks(t, "a node's own output", bare(1, nil, nil, op(list(0), list(0))), api.ErrCycle)
	checks(t, "an output of the node behind", bare(2, nil, nil, op(list(1), list(0)), op(nil, list(1))), api.ErrCycle)
	checks(t, "two that wait for one another", bare(2, nil, nil, op(list(1), list(0)), op(list(0), list(1))), api.ErrCycle)
	checks(t, "a second input of nothing", bare(3, list(0), nil, op(list(0, 1), list(2))), api.ErrCycle)
	checks(t, "behind one that is left out", bare(3, list(0), nil, op(list(-1, 1), list(2))), api.ErrCycle)
	checks(t, "a second output of nothing", bare(2, list(0), list(0, 1)), api.ErrCycle)
	for what, put := range asked() {
		g := sound()
		put(&g, 7)
		checks(t, what, g, api.ErrCycle)
	}
	for i := range 3 {
		g := sound()
		g.Outputs[i] = 7
		checks(t, "an output", g, api.ErrCycle)
	}
	g := sound()
	slices.Reverse(g.Nodes)
	checks(t, "backwards", g, api.ErrCycle)
}

// P9.2, R2: of two things that are wrong the one that is named first, wherever each stands.
func TestTwoWrongs(t *testing.T) {
	twice := map[string]func(*api.Graph){
		"first value": func(g *api.Graph) { g.Vals[1].Const = true },
		"last value":  func(g *api.Graph) { g.Nodes[2].Out = append(g.Nodes[2].Out, 6) },
		"inputs":      func(g *api.Graph) { g.Inputs = append(g.Inputs, 2) },
	}
	undefined := map[string]func(*api.Graph){
		"first node": func(g *api.Graph) { g.Nodes[0].In[0] = 7 },
		"last node":  func(g *api.Graph) { g.Nodes[2].In[0] = 7 },
		"outputs":    func(g *api.Graph) { g.Outputs = append(g.Outputs, 7) },
	}
	for whereTwice, one := range twice {
		for where, other := range undefined {
			g := sound()
			one(&g)
			checks(t, whereTwice, g, api.ErrName)
			other(&g)
			checks(t, whereTwice+" and "+where, g, api.ErrName)
			for what, put := range places() {
				both := graph.Copy(g)
				put(&both, 8)
				checks(t, whereTwice+" and "+where+" and "+what, both, api.ErrPlace)
			}
			g = sound()
			other(&g)
			checks(t, where, g, api.ErrCycle)
			for what, put := range asked() {
				both := graph.Copy(g)
				if put(&both, -2); wantCheck(both) != api.ErrPlace {
					t.Errorf("%s and %s: what is tried is not wrong", where, what)
				}
				checks(t, where+" and "+what, both, api.ErrPlace)
			}
		}
	}
}
