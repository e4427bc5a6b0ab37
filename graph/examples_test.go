package graph_test

import (
	"testing"

	"lattice/api"
	"lattice/graph"
)

// The chapter's first example.
func TestExampleGraph(t *testing.T) {
	g := built(t, model("c", "x", "y", node("Add", "t c", "y"), node("Relu", "x", "t")))
	want := api.Graph{
		Vals: []api.Val{
			{Type: api.Int, Const: true, T: whole(0)},
			{Type: api.Float, Dims: []int{1}},
			{},
			{},
		},
		Nodes: []api.GNode{
			{Op: api.OpRelu, In: []int{1}, Out: []int{3}, Source: 1},
			{Op: api.OpAdd, In: []int{3, 0}, Out: []int{2}, Source: 0},
		},
		Inputs:  []int{1},
		Outputs: []int{2},
	}
	if !alike(g, want) {
		t.Errorf("%s, want %s", short(g), short(want))
	}
	if err := graph.Check(g); err != api.OK {
		t.Errorf("Check: %v", err)
	}
}

// The chapter's second example.
func TestExampleErrors(t *testing.T) {
	refuses(t, model("", "", "y", node("Relu", "y", "t"), node("Relu", "t", "y")), api.ErrCycle, 0)
	refuses(t, model("", "", "y", node("Relu", "z", "y")), api.ErrName, 0)
	refuses(t, model("", "x x", "x"), api.ErrName, -1)
}
