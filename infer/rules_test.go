package infer_test

import (
	"cmp"
	"math"
	"reflect"
	"slices"
	"testing"

	"lattice/api"
	"lattice/graph"
	"lattice/infer"
	"lattice/seeds"
)

// span is the memory of a list, its room too.
type span struct{ from, to uintptr }

// spans are those of all lists within a value.
func spans(v reflect.Value) []span {
	var all []span
	switch v.Kind() {
	case reflect.Struct:
		for i := range v.NumField() {
			all = append(all, spans(v.Field(i))...)
		}
	case reflect.Slice:
		if size := uintptr(v.Cap()) * v.Type().Elem().Size(); size > 0 {
			all = append(all, span{v.Pointer(), v.Pointer() + size})
		}
		for i := range v.Len() {
			all = append(all, spans(v.Index(i))...)
		}
	}
	return all
}

// apart: does no list of the answers share memory with another one, or with one of what was handed in?
func apart(handedIn any, answers ...any) bool {
	var own []span
	for _, a := range answers {
		own = append(own, spans(reflect.ValueOf(a))...)
	}
	given := spans(reflect.ValueOf(handedIn))
	// A list that is handed in may share memory with another one; then it counts once.
	slices.SortFunc(given, func(a, b span) int { return cmp.Compare(a.from, b.from) })
	var joined []span
	for _, g := range given {
		if n := len(joined); n > 0 && g.from < joined[n-1].to {
			joined[n-1].to = max(joined[n-1].to, g.to)
			continue
		}
		joined = append(joined, g)
	}
	all := append(own, joined...)
	slices.SortFunc(all, func(a, b span) int { return cmp.Compare(a.from, b.from) })
	for i := 1; i < len(all); i++ {
		if all[i].from < all[i-1].to {
			return false
		}
	}
	return true
}

// handed is what Node takes, by fields that can be looked into.
type handed struct {
	S  api.Setting
	In []api.Val
}

// roomy is a value in memory of its own, each list with room behind it, in which something stands.
func roomy[E any](x E) E {
	v := reflect.New(reflect.TypeFor[E]()).Elem()
	v.Set(reflect.ValueOf(x))
	giveRoom(v)
	return v.Interface().(E)
}

func giveRoom(v reflect.Value) {
	switch v.Kind() {
	case reflect.Struct:
		for i := range v.NumField() {
			giveRoom(v.Field(i))
		}
	case reflect.Slice:
		n := v.Len()
		wide := reflect.MakeSlice(v.Type(), n+3, n+3)
		reflect.Copy(wide, v)
		for i := range n {
			giveRoom(wide.Index(i))
		}
		for i := n; i < n+3; i++ {
			fill(wide.Index(i))
		}
		v.Set(wide.Slice(0, n))
	}
}

// fill puts something into each plain field of a value.
func fill(v reflect.Value) {
	switch v.Kind() {
	case reflect.Struct:
		for i := range v.NumField() {
			fill(v.Field(i))
		}
	case reflect.Int, reflect.Int64:
		v.SetInt(1234)
	case reflect.Uint32:
		v.SetUint(1234)
	case reflect.Bool:
		v.SetBool(true)
	}
}

// inside tells all of a value, what stands in the room of its lists, too.
func inside(v reflect.Value) []any {
	var all []any
	switch v.Kind() {
	case reflect.Struct:
		for i := range v.NumField() {
			all = append(all, inside(v.Field(i))...)
		}
	case reflect.Slice:
		all = append(all, v.Len(), v.Cap())
		for i := range v.Cap() {
			all = append(all, inside(v.Slice(0, v.Cap()).Index(i))...)
		}
	default:
		all = append(all, v.Interface())
	}
	return all
}

// R3: what is handed in to Node stays as it was, its room too, and the answer is new memory, no two lists of which share any.
func TestMemoryOfNodes(t *testing.T) {
	m := maker{seeds.Seed(104)}
	for i := range 8000 {
		n := m.any(1 + i%api.Ops)
		if m.below(4) == 0 {
			m.spoil(&n)
		}
		want, wantErr := wantNode(n.op, n.s, n.in, n.outs)
		h := roomy(handed{n.s, n.in})
		before := inside(reflect.ValueOf(h))
		got, err := infer.Node(n.op, h.S, h.In, n.outs)
		again, _ := infer.Node(n.op, h.S, h.In, n.outs)
		if !slices.Equal(inside(reflect.ValueOf(h)), before) {
			t.Fatalf("Node changed %s", short(n))
		}
		if !apart(h, got, again) {
			t.Fatalf("%s: lists share memory", short(n))
		}
		if err != wantErr || !alike(got, want) || !alike(again, want) {
			t.Fatalf("%s: with room behind its lists %s, want %s", short(n), words(got, err), words(want, wantErr))
		}
		if err != api.OK && got != nil {
			t.Fatalf("%s: beside %v: %s", short(n), err, short(got))
		}
	}
}

// R3: likewise of whole graphs, also of such whose own lists share memory.
func TestMemoryOfGraphs(t *testing.T) {
	m := maker{seeds.Seed(105)}
	graphs := []api.Graph{{}, sane(), shared()}
	for range 600 {
		graphs = append(graphs, m.anyGraph())
	}
	for _, given := range graphs {
		want, wantErr, wantAt := infer.Of(given)
		for _, g := range []api.Graph{given, roomy(given)} {
			before := inside(reflect.ValueOf(g))
			got, err, at := infer.Of(g)
			again, _, _ := infer.Of(g)
			if !slices.Equal(inside(reflect.ValueOf(g)), before) {
				t.Fatalf("Of changed %s", short(g))
			}
			if !apart(g, got, again) {
				t.Fatalf("%s: lists share memory: %s", short(g), short(got))
			}
			if err != wantErr || at != wantAt || !alike(got, want) || !alike(again, want) {
				t.Fatalf("%s: %s, %v at %d", short(g), short(got), err, at)
			}
		}
	}
}

// shared is a graph all of whose lists of numbers are one.
func shared() api.Graph {
	one := []int{0}
	x := api.Tensor{Type: api.Int, Dims: one}
	s := api.Setting{Axes: one, Perm: one, Kernel: one, Strides: one, Pads: one, Dilations: one, Value: x, HasPerm: true}
	v := api.Val{Type: api.Int, Dims: one, T: x}
	g := api.Graph{Vals: []api.Val{v, v, v}, Inputs: one, Outputs: one}
	for i := range 2 {
		g.Nodes = append(g.Nodes, api.GNode{Op: api.OpTranspose, S: s, In: one, Out: []int{i + 1}})
	}
	return g
}

// R3: outputs with the shape of an input, or of one another, have memory of their own.
func TestOwnMemory(t *testing.T) {
	in := vals("f4.4 f4.4 f4.4")
	for _, op := range []int{api.OpIdentity, api.OpAdd, api.OpMatMul, api.OpTranspose, api.OpConcat, api.OpGemm, api.OpPRelu, api.OpClip, api.OpSplit} {
		least, _, outs := arity(op)
		got, err := infer.Node(op, plain, in[:least], min(outs, 4))
		if err != api.OK || !apart(in, got) {
			t.Fatalf("operator %d: %v, %s", op, err, short(got))
		}
		for _, v := range got {
			v.Dims[0] = 99
		}
		if !alike(in, vals("f4.4 f4.4 f4.4")) {
			t.Fatalf("operator %d: the input's dims were handed on", op)
		}
	}
}

// odds are numbers that are most often wrong.
func odds() []int {
	return []int{math.MinInt, math.MinInt + 1, -1 << 32, -4097, -9, -8, -1, 0, 1, 2, 8, 9, 4096, 4097, 1 << 31, 1 << 32, math.MaxInt - 1, math.MaxInt}
}

// oddSetting has that number everywhere.
func oddSetting(n, length int) api.Setting {
	l := slices.Repeat([]int{n}, length)
	return api.Setting{Axis: n, Axes: l, HasAxes: true, Perm: l, HasPerm: true, To: n, Mode: n, Group: n, Kernel: l, Strides: l, Pads: l, Dilations: l, Auto: n, Block: n, Start: n, End: n, HasEnd: true,
		Value: api.Tensor{Type: n, Dims: l}}
}

// R1, R7: settings, types and dims that may not be, of all operators, end in the answer that the chapter asks for.
func TestWrongArguments(t *testing.T) {
	for op := -1; op <= api.Ops+1; op++ {
		for _, n := range odds() {
			for _, length := range []int{0, 2, 4, 9} {
				s := oddSetting(n, length)
				for _, v := range []api.Val{val("f2.3"), val("f1.4.4.4"), val("i"), told(n), told(n, n), told(1, n), {Type: n, Dims: []int{2}}, {Type: api.Float, Dims: []int{n}}, {Type: api.Int, Dims: []int{n, n}, Const: true}, {}} {
					for _, ins := range []int{1, 2, 3, 5} {
						in := slices.Repeat([]api.Val{v}, ins)
						if ins > 1 && n%2 == 0 {
							in[0] = val("f4.4")
						}
						want, wantErr := wantNode(op, s, in, 1)
						got, err := infer.Node(op, s, in, 1)
						if err != wantErr || !alike(got, want) {
							t.Fatalf("operator %d, %s, %s: %s, want %s", op, short(s), short(in), words(got, err), words(want, wantErr))
						}
					}
				}
			}
		}
	}
}

// R1: lists that are far too long.
func TestLongLists(t *testing.T) {
	const n = 1 << 17
	long := slices.Repeat([]int{1}, n)
	big := api.Val{Type: api.Float, Dims: long}
	gives(t, api.OpRelu, plain, []api.Val{big}, 1, "ErrSize")
	gives(t, api.OpConcat, plain, slices.Repeat([]api.Val{val("f1")}, n), 1, "ErrArg")
	gives(t, api.OpTranspose, api.Setting{Perm: long, HasPerm: true}, vals("f1"), 1, "ErrAttr")
	gives(t, api.OpReduceMax, api.Setting{Axes: long}, vals("f1.1"), 1, "ErrAttr")
	gives(t, api.OpConv, api.Setting{Group: 1, Pads: long}, vals("f1.1.4.4 f1.1.1.1"), 1, "ErrAttr")
	gives(t, api.OpMaxPool, api.Setting{Kernel: long}, vals("f1.1.4.4"), 1, "ErrAttr")
	gives(t, api.OpSplit, plain, vals("f6"), math.MaxInt, "ErrArg")
	gives(t, api.OpReshape, plain, []api.Val{val("f1"), {Type: api.Int, Dims: []int{n}, Const: true, T: whole([]int{n}, make([]int64, n)...)}}, 1, "ErrSize")
	gives(t, api.OpConstantOfShape, api.Setting{Value: api.Tensor{Type: api.Float, Dims: long, F: []uint32{1}}}, vals("t1"), 1, "ErrAttr")
}

// R1, R5: great graphs that no model has are answered, too.
func TestGreatGraphs(t *testing.T) {
	const n = 20000
	g := api.Graph{Vals: make([]api.Val, n+1), Inputs: list(0), Outputs: list(n)}
	g.Vals[0] = val("f2.3")
	for i := range n {
		g.Nodes = append(g.Nodes, gnode(api.OpTranspose, plain, list(i), list(i+1), i))
	}
	got, err, at := infer.Of(g)
	if err != api.OK || at != 0 || words(got.Vals[n-1:], api.OK) != "f3.2 f2.3" {
		t.Errorf("%v at %d", err, at)
	}
	g.Nodes[n-1].Op = api.OpNot
	refuses(t, "the last one", graph.Copy(g), api.ErrType, n-1)
}
