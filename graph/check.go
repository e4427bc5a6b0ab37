package graph

import (
	"slices"

	"lattice/api"
)

// Check tells what is wrong with a graph.
func Check(g api.Graph) api.Errno {
	// Places are asked first: what follows takes each number as that of a value.
	switch {
	case !placesAreThere(g):
		return api.ErrPlace
	case someDefinedTwice(g):
		return api.ErrName
	case someNotDefined(g):
		return api.ErrCycle
	}
	return api.OK
}

// isValue: does a graph have a value of that number?
func isValue(g api.Graph, v int) bool { return v >= 0 && v < len(g.Vals) }

func placesAreThere(g api.Graph) bool {
	beyond := func(v int) bool { return !isValue(g, v) }
	if slices.ContainsFunc(g.Inputs, beyond) || slices.ContainsFunc(g.Outputs, beyond) {
		return false
	}
	for _, n := range g.Nodes {
		wrong := func(v int) bool { return v != leftOut && beyond(v) }
		if slices.ContainsFunc(n.In, wrong) || slices.ContainsFunc(n.Out, beyond) {
			return false
		}
	}
	return true
}

func someDefinedTwice(g api.Graph) bool {
	times := make([]int, len(g.Vals))
	for i, v := range g.Vals {
		if v.Const {
			times[i]++
		}
	}
	for _, v := range g.Inputs {
		times[v]++
	}
	for _, n := range g.Nodes {
		for _, v := range n.Out {
			times[v]++
		}
	}
	return slices.ContainsFunc(times, func(n int) bool { return n > 1 })
}

func someNotDefined(g api.Graph) bool {
	defined := given(g)
	for _, n := range g.Nodes {
		if !areDefined(n.In, defined) {
			return true
		}
		define(n.Out, defined)
	}
	return slices.ContainsFunc(g.Outputs, func(v int) bool { return !defined[v] })
}
