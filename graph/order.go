package graph

import (
	"slices"

	"lattice/api"
)

// ordered are nodes that come by rising Source, each behind those that it needs, of all that could stand next the first one. It marks what they define.
func ordered(nodes []api.GNode, defined []bool) ([]api.GNode, api.Errno, int) {
	var row []api.GNode
	stands := make([]bool, len(nodes))
next:
	for len(row) < len(nodes) {
		for i := range nodes {
			if !stands[i] && areDefined(nodes[i].In, defined) {
				stands[i] = true
				define(nodes[i].Out, defined)
				row = append(row, nodes[i])
				continue next
			}
		}
		return nil, api.ErrCycle, nodes[slices.Index(stands, false)].Source
	}
	return row, api.OK, 0
}

// define marks a node's outputs.
func define(out []int, defined []bool) {
	for _, v := range out {
		defined[v] = true
	}
}

// areDefined: is each input of a node defined, or left out?
func areDefined(in []int, defined []bool) bool {
	for _, v := range in {
		if v != leftOut && !defined[v] {
			return false
		}
	}
	return true
}

// given tells of each value whether it is defined without any node; Inputs must be values' numbers.
func given(g api.Graph) []bool {
	list := make([]bool, len(g.Vals))
	for i, v := range g.Vals {
		list[i] = v.Const
	}
	for _, v := range g.Inputs {
		list[v] = true
	}
	return list
}
