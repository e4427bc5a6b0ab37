package graph

import (
	"lattice/api"
	"lattice/tens"
)

// Copy is a graph in new memory.
func Copy(g api.Graph) api.Graph {
	c := api.Graph{Vals: copied(g.Vals), Nodes: copied(g.Nodes), Inputs: copied(g.Inputs), Outputs: copied(g.Outputs)}
	for i, v := range c.Vals {
		c.Vals[i].Dims = copied(v.Dims)
		c.Vals[i].T = tens.Copy(v.T)
	}
	for i, n := range c.Nodes {
		c.Nodes[i].S = copySetting(n.S)
		c.Nodes[i].In = copied(n.In)
		c.Nodes[i].Out = copied(n.Out)
	}
	return c
}

func copySetting(s api.Setting) api.Setting {
	s.Axes = copied(s.Axes)
	s.Perm = copied(s.Perm)
	s.Kernel = copied(s.Kernel)
	s.Strides = copied(s.Strides)
	s.Pads = copied(s.Pads)
	s.Dilations = copied(s.Dilations)
	s.Value = tens.Copy(s.Value)
	return s
}

// copied is a list in memory of its own, also where it is empty but has room left.
func copied[E any](list []E) []E { return append([]E(nil), list...) }
