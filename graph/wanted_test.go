package graph_test

import (
	"slices"

	"lattice/api"
	"lattice/onnx"
	"lattice/ops"
)

// This file holds the chapter's promises written down a second time, as its words go: by names and by searching, not by numbers and by marking.

// wantGiven are the names of constants and inputs.
func wantGiven(m api.Model) []string {
	var all []string
	for _, c := range m.Inits {
		all = append(all, c.Name)
	}
	for _, x := range m.Inputs {
		all = append(all, x.Name)
	}
	return all
}

// wantNames are the names of all values, in the order of their numbers.
func wantNames(m api.Model) []string {
	all := wantGiven(m)
	for _, n := range m.Nodes {
		all = append(all, n.Out...)
	}
	return all
}

// wantStanding are the names of what stands without waiting: constants, inputs, and the outputs of operators Constant.
func wantStanding(m api.Model) []string {
	all := wantGiven(m)
	for _, n := range m.Nodes {
		if n.Op == "Constant" {
			all = append(all, n.Out...)
		}
	}
	return all
}

// wantNameFault is P9.1's third and fourth error.
func wantNameFault(m api.Model) (api.Errno, int) {
	given := wantGiven(m)
	for i, name := range given {
		if name == "" || slices.Contains(given[:i], name) {
			return api.ErrName, -1
		}
	}
	for i, n := range m.Nodes {
		ahead := m
		ahead.Nodes = m.Nodes[:i]
		for j, name := range n.Out {
			if slices.Contains(wantNames(ahead), name) || slices.Contains(n.Out[:j], name) {
				return api.ErrName, i
			}
		}
	}
	all := wantNames(m)
	for i, n := range m.Nodes {
		for _, name := range n.In {
			if name != "" && !slices.Contains(all, name) {
				return api.ErrName, i
			}
		}
	}
	for _, o := range m.Outputs {
		if !slices.Contains(all, o.Name) {
			return api.ErrName, -1
		}
	}
	return api.OK, 0
}

// wantOrder are the numbers of the model's nodes as they stand, and those that are left.
func wantOrder(m api.Model) ([]int, []int) {
	there := wantStanding(m)
	var row, left []int
	for i, n := range m.Nodes {
		if n.Op != "Constant" {
			left = append(left, i)
		}
	}
	for {
		at := slices.IndexFunc(left, func(i int) bool {
			return !slices.ContainsFunc(m.Nodes[i].In, func(name string) bool { return name != "" && !slices.Contains(there, name) })
		})
		if at < 0 {
			return row, left
		}
		row = append(row, left[at])
		there = append(there, m.Nodes[left[at]].Out...)
		left = slices.Delete(left, at, at+1)
	}
}

func wantCanon(t api.Tensor) api.Tensor {
	t.F = slices.Clone(t.F)
	for i, f := range t.F {
		if f&0x7FFFFFFF > 0x7F800000 {
			t.F[i] = 0x7FC00000
		}
	}
	return t
}

// wantVals are the values, by the model's order.
func wantVals(m api.Model) []api.Val {
	var vals []api.Val
	for _, c := range m.Inits {
		vals = append(vals, asConstant(wantCanon(c.T)))
	}
	for _, x := range m.Inputs {
		vals = append(vals, api.Val{Type: x.Type, Dims: x.Dims})
	}
	for _, n := range m.Nodes {
		for range n.Out {
			v := api.Val{}
			if n.Op == "Constant" {
				_, s, _ := ops.Resolve(n)
				v = asConstant(wantCanon(s.Value))
			}
			vals = append(vals, v)
		}
	}
	return vals
}

// wantBuild is P9.1.
func wantBuild(m api.Model) (api.Graph, api.Errno, int) {
	if err := onnx.Check(m); err != api.OK {
		return api.Graph{}, err, -1
	}
	for i, n := range m.Nodes {
		if _, _, err := ops.Resolve(n); err != api.OK {
			return api.Graph{}, err, i
		}
	}
	if err, at := wantNameFault(m); err != api.OK {
		return api.Graph{}, err, at
	}
	row, left := wantOrder(m)
	if len(left) > 0 {
		return api.Graph{}, api.ErrCycle, slices.Min(left)
	}
	all := wantNames(m)
	// Of the empty name, which nothing has, this is -1.
	numberOf := func(name string) int { return slices.Index(all, name) }
	g := api.Graph{Vals: wantVals(m)}
	for _, i := range row {
		op, s, _ := ops.Resolve(m.Nodes[i])
		n := api.GNode{Op: op, S: s, Source: i}
		for _, name := range m.Nodes[i].In {
			n.In = append(n.In, numberOf(name))
		}
		for _, name := range m.Nodes[i].Out {
			n.Out = append(n.Out, numberOf(name))
		}
		g.Nodes = append(g.Nodes, n)
	}
	for _, x := range m.Inputs {
		g.Inputs = append(g.Inputs, numberOf(x.Name))
	}
	for _, o := range m.Outputs {
		g.Outputs = append(g.Outputs, numberOf(o.Name))
	}
	return g, api.OK, 0
}

// wantCheck is P9.2.
func wantCheck(g api.Graph) api.Errno {
	strict := slices.Concat(g.Inputs, g.Outputs)
	var asked, putOut []int
	for _, n := range g.Nodes {
		asked = append(asked, n.In...)
		putOut = append(putOut, n.Out...)
	}
	for _, v := range slices.Concat(strict, putOut) {
		if v < 0 || v >= len(g.Vals) {
			return api.ErrPlace
		}
	}
	for _, v := range asked {
		if v < -1 || v >= len(g.Vals) {
			return api.ErrPlace
		}
	}
	definitions := slices.Concat(g.Inputs, putOut)
	for v, val := range g.Vals {
		if val.Const {
			definitions = append(definitions, v)
		}
	}
	slices.Sort(definitions)
	if len(slices.Compact(slices.Clone(definitions))) < len(definitions) {
		return api.ErrName
	}
	isDefined := func(v, ahead int) bool {
		return g.Vals[v].Const || slices.Contains(g.Inputs, v) ||
			slices.ContainsFunc(g.Nodes[:ahead], func(n api.GNode) bool { return slices.Contains(n.Out, v) })
	}
	for i, n := range g.Nodes {
		for _, v := range n.In {
			if v != -1 && !isDefined(v, i) {
				return api.ErrCycle
			}
		}
	}
	for _, v := range g.Outputs {
		if !isDefined(v, len(g.Nodes)) {
			return api.ErrCycle
		}
	}
	return api.OK
}

// wantLive is P9.3: numbers alone are held against one another, be they those of values or not.
func wantLive(g api.Graph) []bool {
	live := make([]bool, len(g.Nodes))
	for i := range slices.Backward(g.Nodes) {
		live[i] = slices.ContainsFunc(g.Nodes[i].Out, func(v int) bool {
			for j := i + 1; j < len(g.Nodes); j++ {
				if live[j] && slices.Contains(g.Nodes[j].In, v) {
					return true
				}
			}
			return slices.Contains(g.Outputs, v)
		})
	}
	return live
}

// wantPrune is P9.3.
func wantPrune(g api.Graph) api.Graph {
	var nodes []api.GNode
	for i, is := range wantLive(g) {
		if is {
			nodes = append(nodes, g.Nodes[i])
		}
	}
	g.Nodes = nodes
	return g
}
