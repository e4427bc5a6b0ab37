package graph

import "lattice/api"

// marks are the numbers that an output of a graph hangs on. They stand in a map, since in a graph that is not sound they may be those of no value.
type marks map[int]struct{}

func (m marks) add(list []int) {
	for _, v := range list {
		m[v] = struct{}{}
	}
}

func (m marks) hasAny(list []int) bool {
	for _, v := range list {
		if _, is := m[v]; is {
			return true
		}
	}
	return false
}

// Live tells on which nodes an output hangs.
func Live(g api.Graph) []bool {
	live := make([]bool, len(g.Nodes))
	needed := marks{}
	needed.add(g.Outputs)
	// From the last node on, so that of each node all behind it are told.
	for i := len(g.Nodes) - 1; i >= 0; i-- {
		live[i] = needed.hasAny(g.Nodes[i].Out)
		if live[i] {
			needed.add(g.Nodes[i].In)
		}
	}
	return live
}

// Prune is a graph without the nodes that nothing hangs on.
func Prune(g api.Graph) api.Graph {
	p := g
	p.Nodes = nil
	for i, is := range Live(g) {
		if is {
			p.Nodes = append(p.Nodes, g.Nodes[i])
		}
	}
	return Copy(p)
}
