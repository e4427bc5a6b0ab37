package graph_test

import (
	"fmt"
	"slices"
	"testing"

	"lattice/api"
	"lattice/graph"
	"lattice/seeds"
)

// shuffled is a list in another order.
func shuffled[E any](s *seeds.Seed, list []E) []E {
	list = slices.Clone(list)
	for i := len(list) - 1; i > 0; i-- {
		j := s.Below(i + 1)
		list[i], list[j] = list[j], list[i]
	}
	return list
}

// anyOf is one of a list; empty, if there is none.
func anyOf(s *seeds.Seed, list []string) string {
	if len(list) == 0 {
		return ""
	}
	return list[s.Below(len(list))]
}

// anyTensor is one that may be, with no numbers among its floats.
func anyTensor(s *seeds.Seed) api.Tensor {
	n := s.Below(4)
	t := api.Tensor{Type: []int{api.Float, api.Int, api.Bool}[s.Below(3)], Dims: []int{n}}
	for range n {
		switch t.Type {
		case api.Float:
			t.F = append(t.F, uint32(s.Next())|0x7F800000*uint32(s.Below(2)))
		case api.Int:
			t.I = append(t.I, int64(s.Next()))
		case api.Bool:
			t.B = append(t.B, s.Below(2) == 0)
		}
	}
	return t
}

// anyNode is one whose inputs are of some names; what it puts out begins with a text of its own.
func anyNode(s *seeds.Seed, from []string, own string) api.Node {
	pick := func() string { return anyOf(s, from) }
	maybe := func() string {
		if s.Below(3) == 0 {
			return ""
		}
		return pick()
	}
	n := api.Node{Out: []string{own}}
	switch s.Below(6) {
	case 0:
		n.Op, n.Attrs = "Constant", []api.Attr{tensor("value", anyTensor(s))}
	case 1:
		n.Op, n.In = "Clip", []string{pick(), maybe(), maybe()}[:1+s.Below(3)]
	case 2:
		n.Op, n.In, n.Out = "Split", []string{pick(), maybe()}[:1+s.Below(2)], []string{own, own + "b", own + "c"}[:1+s.Below(3)]
	case 3:
		n.Op, n.Attrs = "Concat", []api.Attr{number("axis", int64(s.Below(3)))}
		n.In = append(n.In, pick())
		for range s.Below(4) {
			n.In = append(n.In, maybe())
		}
	case 4:
		n.Op, n.In = "Add", []string{pick(), pick()}
	default:
		n.Op, n.In = "Relu", []string{pick()}
	}
	return n
}

// anyModel is one whose names fit, its nodes in any order.
func anyModel(s *seeds.Seed) api.Model {
	m := api.Model{Opset: 17}
	var all []string
	for i := range 1 + s.Below(3) {
		m.Inits = append(m.Inits, api.Init{Name: fmt.Sprint("c", i), T: anyTensor(s)})
		all = append(all, m.Inits[i].Name)
	}
	for i := range s.Below(3) {
		m.Inputs = append(m.Inputs, api.Value{Name: fmt.Sprint("x", i), Type: api.Int, Dims: []int{i, 2}})
		all = append(all, m.Inputs[i].Name)
	}
	for i := range s.Below(9) {
		n := anyNode(s, all, fmt.Sprint("v", i))
		m.Nodes = append(m.Nodes, n)
		all = append(all, n.Out...)
	}
	for range s.Below(4) {
		m.Outputs = append(m.Outputs, api.Value{Name: anyOf(s, all), Type: api.Float})
	}
	m.Nodes = shuffled(s, m.Nodes)
	return m
}

// spoilModel makes one thing in a model other than it was; most often it is wrong then.
func spoilModel(s *seeds.Seed, m *api.Model) {
	all := append(wantNames(*m), "", "nothing")
	switch s.Below(8) {
	case 0:
		m.Inits[s.Below(len(m.Inits))].Name = anyOf(s, all)
	case 1:
		if len(m.Inputs) > 0 {
			m.Inputs[s.Below(len(m.Inputs))].Name = anyOf(s, all)
		}
	case 2:
		if len(m.Outputs) > 0 {
			m.Outputs[s.Below(len(m.Outputs))].Name = anyOf(s, all)
		}
	case 3:
		if s.Below(8) == 0 {
			m.Opset--
		}
	default:
		if len(m.Nodes) > 0 {
			spoilNode(s, &m.Nodes[s.Below(len(m.Nodes))], all)
		}
	}
}

func spoilNode(s *seeds.Seed, n *api.Node, all []string) {
	switch {
	case s.Below(12) == 0:
		n.Op = "Foo"
	case s.Below(12) == 0:
		n.Attrs = append(n.Attrs, number("none", 1))
	case s.Below(4) == 0:
		n.Out[s.Below(len(n.Out))] = anyOf(s, all)
	case len(n.In) > 0:
		n.In[s.Below(len(n.In))] = anyOf(s, all)
	}
}

// P9.1: models by chance, against the chapter written down a second time.
func TestAnyModels(t *testing.T) {
	s := seeds.Seed(92)
	count := map[string]int{}
	for range 15000 {
		m := anyModel(&s)
		for range s.Below(4) {
			spoilModel(&s, &m)
		}
		want, wantErr, wantAt := wantBuild(m)
		got, err, at := graph.Build(m)
		if err != wantErr || at != wantAt || !alike(got, want) {
			t.Fatalf("%s: %s, %v at %d, want %s, %v at %d", short(m), short(got), err, at, short(want), wantErr, wantAt)
		}
		count[fmt.Sprint(int(err), " ", at >= 0)]++
	}
	for _, way := range []string{"0 true", "1 false", "7 true", "14 true", "13 false", "13 true", "12 true"} {
		if count[way] < 150 {
			t.Errorf("what was tried is one-sided: %v", count)
		}
	}
}

// anyGraph is one by chance, whose numbers are most often those of values.
func anyGraph(s *seeds.Seed) api.Graph {
	vals := s.Below(10)
	next := 0
	some := func(n int) []int {
		var l []int
		for range s.Below(n) {
			v := s.Below(vals + 1)
			if s.Below(40) == 0 {
				v = s.Below(vals+5) - 2
			}
			l = append(l, min(v, max(next, 0)))
		}
		return l
	}
	// Mostly each output is the next value that nothing defines yet.
	define := func(n int) []int {
		l := some(n)
		for i := range l {
			if s.Below(25) > 0 {
				l[i] = next
				next++
			}
		}
		return l
	}
	g := api.Graph{Vals: make([]api.Val, vals)}
	for next < vals && s.Below(3) > 0 {
		g.Vals[next].Const = true
		next++
	}
	g.Inputs = define(3)
	for range s.Below(6) {
		next -= s.Below(20) / 19
		n := api.GNode{Op: s.Below(82), In: some(4), Out: define(3), Source: s.Below(9)}
		for i := range n.In {
			if s.Below(6) == 0 {
				n.In[i] = -1
			}
		}
		g.Nodes = append(g.Nodes, n)
	}
	g.Outputs = some(4)
	if s.Below(20) == 0 && vals > 0 {
		g.Vals[s.Below(vals)].Const = true
	}
	if s.Below(3) > 0 {
		g.Vals = slices.Grow(g.Vals, 20)[:max(vals, next+1)]
	}
	return g
}

// P9.2, P9.3: graphs by chance, against the chapter written down a second time.
func TestAnyGraphs(t *testing.T) {
	s := seeds.Seed(93)
	count := map[api.Errno]int{}
	nodes, pruned := 0, 0
	for range 60000 {
		g := anyGraph(&s)
		want := wantCheck(g)
		if got := graph.Check(g); got != want {
			t.Fatalf("%s: %v, want %v", short(g), got, want)
		}
		if got, want := graph.Live(g), wantLive(g); !slices.Equal(got, want) {
			t.Fatalf("%s: %v, want %v", short(g), got, want)
		}
		if got, want := graph.Prune(g), wantPrune(g); !alike(got, want) {
			t.Fatalf("%s: %s, want %s", short(g), short(got), short(want))
		}
		if got := graph.Copy(g); !alike(got, g) {
			t.Fatalf("%s: %s", short(g), short(got))
		}
		count[want]++
		nodes += len(g.Nodes)
		pruned += len(g.Nodes) - len(wantPrune(g).Nodes)
	}
	if min(count[api.OK], count[api.ErrPlace], count[api.ErrName], count[api.ErrCycle]) < 3000 || pruned < nodes/10 || pruned > nodes*9/10 {
		t.Errorf("what was tried is one-sided: %v, %d of %d nodes not live", count, pruned, nodes)
	}
}
