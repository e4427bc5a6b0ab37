package graph_test

import (
	"fmt"
	"slices"
	"testing"

	"lattice/api"
	"lattice/graph"
	"lattice/seeds"
)

// P9.4: what Build answers is sound, and each node of the model that is no Constant stands in it once.
func TestBuiltIsSound(t *testing.T) {
	s := seeds.Seed(94)
	for range 5000 {
		m := anyModel(&s)
		g := built(t, m)
		if err := graph.Check(g); err != api.OK {
			t.Fatalf("%s: %v", short(m), err)
		}
		var want []int
		for i, n := range m.Nodes {
			if n.Op != "Constant" {
				want = append(want, i)
			}
		}
		got := sources(g)
		slices.Sort(got)
		if !slices.Equal(got, want) {
			t.Fatalf("%s: %d, want %d", short(m), got, want)
		}
	}
}

// P9.4: Prune of a sound graph is sound, and all of its nodes are live; pruned again it is the same.
func TestPrunedIsSound(t *testing.T) {
	s := seeds.Seed(95)
	check := func(g api.Graph) {
		p := graph.Prune(g)
		if err := graph.Check(p); err != api.OK {
			t.Fatalf("%s: %v", short(g), err)
		}
		if slices.Contains(graph.Live(p), false) {
			t.Fatalf("%s: not all live", short(g))
		}
		if again := graph.Prune(p); !alike(again, p) {
			t.Fatalf("%s: pruned again %s", short(p), short(again))
		}
	}
	sound := 0
	for range 10000 {
		check(built(t, anyModel(&s)))
		if g := anyGraph(&s); graph.Check(g) == api.OK {
			check(g)
			sound++
		}
	}
	if sound < 500 {
		t.Errorf("only %d sound graphs were tried", sound)
	}
}

// byNames tells what hangs on what in a graph, without numbers: each node by its operator, setting and names.
func byNames(m api.Model, g api.Graph) []string {
	all := wantNames(m)
	name := func(v int) string {
		if v < 0 {
			return "left out"
		}
		return all[v]
	}
	var told []string
	for _, n := range g.Nodes {
		var in, out []string
		for _, v := range n.In {
			in = append(in, name(v))
		}
		for _, v := range n.Out {
			out = append(out, name(v))
		}
		told = append(told, fmt.Sprint("node ", n.Op, short(n.S), in, out))
	}
	for v, val := range g.Vals {
		told = append(told, fmt.Sprint("value ", name(v), short(val)))
	}
	slices.Sort(told)
	for _, v := range slices.Concat(g.Inputs, g.Outputs) {
		told = append(told, name(v))
	}
	return told
}

// P9.4: whether Build takes a model does not hang on the order of its nodes; nor does what the graph says, but for numbers and order.
func TestOrderOfNodes(t *testing.T) {
	s := seeds.Seed(96)
	taken, refused := 0, map[api.Errno]int{}
	for range 5000 {
		m := anyModel(&s)
		for range s.Below(3) {
			spoilModel(&s, &m)
		}
		g, err, _ := graph.Build(m)
		for range 3 {
			other := m
			other.Nodes = shuffled(&s, m.Nodes)
			h, otherErr, _ := graph.Build(other)
			if (err == api.OK) != (otherErr == api.OK) {
				t.Fatalf("%s: %v, in another order %v", short(m), err, otherErr)
			}
			if err == api.OK && !slices.Equal(byNames(m, g), byNames(other, h)) {
				t.Fatalf("%s: %s, in another order %s", short(m), short(g), short(h))
			}
		}
		if err == api.OK {
			taken++
		} else {
			refused[err]++
		}
	}
	if taken < 1000 || refused[api.ErrName] < 500 || refused[api.ErrCycle] < 100 {
		t.Errorf("what was tried is one-sided: %d taken, refused %v", taken, refused)
	}
}

// P9.3: a graph that is copied says the same.
func TestCopySaysTheSame(t *testing.T) {
	s := seeds.Seed(97)
	for range 5000 {
		g := anyGraph(&s)
		c := graph.Copy(g)
		if graph.Check(c) != graph.Check(g) || !slices.Equal(graph.Live(c), graph.Live(g)) || !alike(graph.Prune(c), graph.Prune(g)) {
			t.Fatalf("%s", short(g))
		}
	}
}
