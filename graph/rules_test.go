package graph_test

import (
	"cmp"
	"math"
	"reflect"
	"slices"
	"testing"

	"lattice/api"
	"lattice/graph"
	"lattice/seeds"
)

// span is the memory of a list, its room too.
type span struct{ from, to uintptr }

// spans are those of all lists within a value.
func spans(v reflect.Value) []span {
	var all []span
	switch v.Kind() {
	case reflect.Struct:
		for i := range v.NumField() {
			all = append(all, spans(v.Field(i))...)
		}
	case reflect.Slice:
		if size := uintptr(v.Cap()) * v.Type().Elem().Size(); size > 0 {
			all = append(all, span{v.Pointer(), v.Pointer() + size})
		}
		for i := range v.Len() {
			all = append(all, spans(v.Index(i))...)
		}
	}
	return all
}

// apart: does no list of the answers share memory with another one, or with one of what was handed in?
func apart(handedIn any, answers ...any) bool {
	var own []span
	for _, a := range answers {
		own = append(own, spans(reflect.ValueOf(a))...)
	}
	given := spans(reflect.ValueOf(handedIn))
	// A list that is handed in may share memory with another one; then it counts once.
	slices.SortFunc(given, func(a, b span) int { return cmp.Compare(a.from, b.from) })
	var joined []span
	for _, g := range given {
		if n := len(joined); n > 0 && g.from < joined[n-1].to {
			joined[n-1].to = max(joined[n-1].to, g.to)
			continue
		}
		joined = append(joined, g)
	}
	all := append(own, joined...)
	slices.SortFunc(all, func(a, b span) int { return cmp.Compare(a.from, b.from) })
	for i := 1; i < len(all); i++ {
		if all[i].from < all[i-1].to {
			return false
		}
	}
	return true
}

// roomy is a value in memory of its own, each list with room behind it, in which something stands.
func roomy[E any](x E) E {
	v := reflect.New(reflect.TypeFor[E]()).Elem()
	v.Set(reflect.ValueOf(x))
	giveRoom(v)
	return v.Interface().(E)
}

func giveRoom(v reflect.Value) {
	switch v.Kind() {
	case reflect.Struct:
		for i := range v.NumField() {
			giveRoom(v.Field(i))
		}
	case reflect.Slice:
		n := v.Len()
		wide := reflect.MakeSlice(v.Type(), n+3, n+3)
		reflect.Copy(wide, v)
		for i := range n {
			giveRoom(wide.Index(i))
		}
		for i := n; i < n+3; i++ {
			fill(wide.Index(i))
		}
		v.Set(wide.Slice(0, n))
	}
}

// fill puts something into each plain field of a value.
func fill(v reflect.Value) {
	switch v.Kind() {
	case reflect.Struct:
		for i := range v.NumField() {
			fill(v.Field(i))
		}
	case reflect.Int, reflect.Int64:
		v.SetInt(1234)
	case reflect.Uint32:
		v.SetUint(1234)
	case reflect.Bool:
		v.SetBool(true)
	case reflect.String:
		v.SetString("room")
	}
}

// inside tells all of a value, what stands in the room of its lists, too.
func inside(v reflect.Value) []any {
	var all []any
	switch v.Kind() {
	case reflect.Struct:
		for i := range v.NumField() {
			all = append(all, inside(v.Field(i))...)
		}
	case reflect.Slice:
		all = append(all, v.Len(), v.Cap())
		for i := range v.Cap() {
			all = append(all, inside(v.Slice(0, v.Cap()).Index(i))...)
		}
	default:
		all = append(all, v.Interface())
	}
	return all
}

// calls are all that is answered of a graph.
func calls(g api.Graph) []any {
	return []any{graph.Check(g), graph.Live(g), graph.Prune(g), graph.Copy(g)}
}

// R3: what is handed in stays as it was, its room too, and the answer is new memory, no two lists of which share any.
func TestMemoryOfModels(t *testing.T) {
	s := seeds.Seed(98)
	models := []api.Model{sane(), {Opset: 17}, manyLists()}
	for range 300 {
		m := anyModel(&s)
		if s.Below(3) == 0 {
			spoilModel(&s, &m)
		}
		models = append(models, m)
	}
	for _, m := range models {
		m = roomy(m)
		before := inside(reflect.ValueOf(m))
		g, err, at := graph.Build(m)
		h, _, _ := graph.Build(m)
		if !slices.Equal(inside(reflect.ValueOf(m)), before) {
			t.Fatalf("Build changed %s", short(m))
		}
		if !apart(m, g, h) {
			t.Fatalf("%s: lists share memory: %s", short(m), short(g))
		}
		want, wantErr, wantAt := wantBuild(m)
		if !alike(g, want) || err != wantErr || at != wantAt {
			t.Fatalf("%s: with room behind its lists %s, %v at %d", short(m), short(g), err, at)
		}
	}
}

// manyLists is a model whose settings and constants have lists of all sorts.
func manyLists() api.Model {
	numbers := func(name string, l ...int64) api.Attr { return api.Attr{Name: name, Kind: api.AttrInts, Ints: l} }
	_, canon := strange()
	m := model("c d", "x z", "x",
		node("Conv", "x z", "a", numbers("dilations", 1, 2), numbers("kernel_shape", 3, 4), numbers("pads", 1, 2, 3, 4), numbers("strides", 5, 6)),
		node("Transpose", "x", "b", numbers("perm", 1, 0)),
		node("ReduceMean", "x", "e", numbers("axes", 0, -1)),
		node("ConstantOfShape", "c", "f", tensor("value", floats(9))),
		node("ConstantOfShape", "c", "g"),
		node("ConstantOfShape", "c", "h"),
		node("Constant", "", "k", tensor("value", api.Tensor{Type: api.Bool, Dims: []int{2}, B: []bool{true, false}})),
		node("Constant", "", "l", numbers("value_ints", 4, 5)),
		node("Constant", "", "m", api.Attr{Name: "value_floats", Kind: api.AttrFloats, Floats: canon}))
	m.Inits[0].T = floats(canon...)
	return m
}

// R3: likewise of graphs, also of such whose own lists share memory.
func TestMemoryOfGraphs(t *testing.T) {
	s := seeds.Seed(99)
	graphs := []api.Graph{{}, sound(), filled(), built(t, manyLists()), shared()}
	for range 300 {
		graphs = append(graphs, anyGraph(&s))
	}
	for _, given := range graphs {
		want := calls(given)
		for _, g := range []api.Graph{given, roomy(given)} {
			before := inside(reflect.ValueOf(g))
			got := append(calls(g), calls(g)...)
			if !slices.Equal(inside(reflect.ValueOf(g)), before) {
				t.Fatalf("%s was changed", short(g))
			}
			if !apart(g, got...) {
				t.Fatalf("%s: lists share memory", short(g))
			}
			for i := range got {
				if !same(reflect.ValueOf(got[i]), reflect.ValueOf(want[i%len(want)])) {
					t.Fatalf("%s: %s, want %s", short(g), short(got[i]), short(want[i%len(want)]))
				}
			}
		}
	}
}

// shared is a graph all of whose lists of numbers are one.
func shared() api.Graph {
	one := []int{0, 1, 2}
	x := api.Tensor{Type: api.Int, Dims: one, I: []int64{5}, F: []uint32{6}, B: []bool{true}}
	s := api.Setting{Axes: one, Perm: one, Kernel: one, Strides: one, Pads: one, Dilations: one, Value: x}
	v := api.Val{Dims: one, T: x}
	n := api.GNode{S: s, In: one, Out: one}
	return api.Graph{Vals: []api.Val{v, v, v}, Nodes: []api.GNode{n, n}, Inputs: one, Outputs: one}
}

// R1, R5: wrong arguments of all sorts end in an answer.
func TestWrongArguments(t *testing.T) {
	for _, v := range []int{math.MinInt, math.MinInt + 1, -4097, -2, -1, 0, 1, 2, 4096, 1 << 31, 1 << 32, math.MaxInt - 1, math.MaxInt} {
		for _, vals := range []int{0, 1, 2, 5000} {
			g := bare(vals, list(v), list(v, v), op(list(v, v), list(v)), op(list(v), list(v, v)), api.GNode{Op: v, Source: v})
			if got, want := graph.Check(g), wantCheck(g); got != want || got == api.OK {
				t.Errorf("%d of %d: %v, want %v", v, vals, got, want)
			}
			if got, want := graph.Live(g), wantLive(g); !slices.Equal(got, want) {
				t.Errorf("%d of %d: %v, want %v", v, vals, got, want)
			}
			if got, want := graph.Prune(g), wantPrune(g); !alike(got, want) {
				t.Errorf("%d of %d: %d nodes", v, vals, len(got.Nodes))
			}
			if got := graph.Copy(g); !alike(got, g) {
				t.Errorf("%d of %d: another copy", v, vals)
			}
		}
	}
	refuses(t, api.Model{Opset: 17, Nodes: make([]api.Node, 1<<16)}, api.ErrArg, -1)
	refuses(t, api.Model{Opset: 17, Nodes: slices.Repeat([]api.Node{{Op: "Foo"}}, 1<<16)}, api.ErrLimit, -1)
	refuses(t, api.Model{Opset: 17, Nodes: []api.Node{{Op: "Foo"}}}, api.ErrUnsupported, 0)
	refuses(t, api.Model{Opset: 17, Nodes: []api.Node{{Op: "Relu"}}}, api.ErrArg, 0)
	refuses(t, api.Model{Opset: math.MinInt64, Inputs: []api.Value{{Type: -1, Dims: []int{math.MinInt}}}}, api.ErrArg, -1)
}

// R1: great graphs that no model has are answered, too.
func TestGreatGraphs(t *testing.T) {
	const n = 20000
	g := bare(n+1, list(0), list(n))
	for i := range n {
		g.Nodes = append(g.Nodes, op(list(i), list(i+1)))
	}
	if err := graph.Check(g); err != api.OK {
		t.Errorf("%v", err)
	}
	if slices.Contains(graph.Live(g), false) || len(graph.Prune(g).Nodes) != n {
		t.Errorf("not all live")
	}
	slices.Reverse(g.Nodes)
	if err := graph.Check(g); err != api.ErrCycle {
		t.Errorf("backwards: %v", err)
	}
	if p := graph.Prune(g); len(p.Nodes) != 1 {
		t.Errorf("backwards: %d live", len(p.Nodes))
	}
}
