package graph

import "lattice/api"

// numbers are those of a model's values, by their names.
type numbers map[string]int

// add gives a name the next number; false, if it has one.
func (n numbers) add(name string) bool {
	if _, is := n[name]; is {
		return false
	}
	n[name] = len(n)
	return true
}

// named numbers all values of a model: constants, inputs, and what its nodes put out.
func named(m api.Model) (numbers, api.Errno, int) {
	names := numbers{}
	for _, c := range m.Inits {
		if c.Name == "" || !names.add(c.Name) {
			return nil, api.ErrName, noNode
		}
	}
	for _, x := range m.Inputs {
		if x.Name == "" || !names.add(x.Name) {
			return nil, api.ErrName, noNode
		}
	}
	for i, n := range m.Nodes {
		for _, name := range n.Out {
			if !names.add(name) {
				return nil, api.ErrName, i
			}
		}
	}
	return names, api.OK, 0
}
