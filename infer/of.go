package infer

import (
	"lattice/api"
	"lattice/graph"
	"lattice/shape"
)

// noNode is the place of an error that is none of the model's nodes'.
const noNode = -1

// Of is a graph whose values have types and shapes; the node at which an error is.
func Of(g api.Graph) (api.Graph, api.Errno, int) {
	if err := graph.Check(g); err != api.OK {
		return api.Graph{}, err, noNode
	}
	if err := givenErr(g); err != api.OK {
		return api.Graph{}, err, noNode
	}
	g = graph.Copy(g)
	for _, n := range g.Nodes {
		list, err := Node(n.Op, n.S, inputsOf(g, n), len(n.Out))
		if err != api.OK {
			return api.Graph{}, err, n.Source
		}
		for i, v := range n.Out {
			g.Vals[v].Type, g.Vals[v].Dims = list[i].Type, list[i].Dims
		}
	}
	return g, api.OK, 0
}

// givenErr is what is wrong with the constants and inputs of a graph that is sound.
func givenErr(g api.Graph) api.Errno {
	given := make([]bool, len(g.Vals))
	for i, v := range g.Vals {
		given[i] = v.Const
	}
	for _, v := range g.Inputs {
		given[v] = true
	}
	for i, v := range g.Vals {
		if !given[i] {
			continue
		}
		if _, err := shape.Size(v.Dims); err != api.OK {
			return err
		}
		if !isType(v.Type) {
			return api.ErrType
		}
	}
	// Behind all of the above: a tensor that does not fit is told behind what is wrong with any value itself.
	for _, v := range g.Vals {
		if v.Const && !isOf(v.T, v) {
			return api.ErrShape
		}
	}
	return api.OK
}

// inputsOf are the values of a node's inputs; nothing stands for one that is left out.
func inputsOf(g api.Graph, n api.GNode) []api.Val {
	list := make([]api.Val, len(n.In))
	for i, v := range n.In {
		if v >= 0 {
			list[i] = g.Vals[v]
		}
	}
	return list
}
