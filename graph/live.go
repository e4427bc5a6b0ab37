package graph

import "lattice/api"

// Live tells on which nodes an output hangs.
func Live(g api.Graph) []bool {
	live := make([]bool, len(g.Nodes))
	needed := make([]bool, len(g.Vals))
	need(g, needed, g.Outputs)
	// From the last node on, so that of each node all behind it are told.
	for i := len(g.Nodes) - 1; i >= 0; i-- {
		n := g.Nodes[i]
		for _, v := range n.Out {
			live[i] = live[i] || isValue(g, v) && needed[v]
		}
		if live[i] {
			need(g, needed, n.In)
		}
	}
	return live
}

// need marks values; a number that is none's names nothing that could hang on a node.
func need(g api.Graph, needed []bool, list []int) {
	for _, v := range list {
		if isValue(g, v) {
			needed[v] = true
		}
	}
}

// Prune is a graph without the nodes that nothing hangs on.
func Prune(g api.Graph) api.Graph {
	p := g
	p.Nodes = nil
	for i, is := range Live(g) {
		if is {
			p.Nodes = append(p.Nodes, g.Nodes[i])
		}
	}
	return Copy(p)
}
