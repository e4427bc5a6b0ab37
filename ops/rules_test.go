package ops_test

import (
	"math"
	"reflect"
	"slices"
	"strings"
	"testing"

	"lattice/api"
	"lattice/ops"
	"lattice/seeds"
)

// spoil writes over all that a list has, its room too.
func spoil[E any](list []E, with E) {
	full := list[:cap(list)]
	for i := range full {
		full[i] = with
	}
}

// spoilers write over the lists of a setting, each over one of them.
func spoilers(s api.Setting) []func() {
	var all []func()
	for _, l := range [][]int{s.Axes, s.Perm, s.Kernel, s.Strides, s.Pads, s.Dilations, s.Value.Dims} {
		all = append(all, func() { spoil(l, 77) })
	}
	return append(all, func() { spoil(s.Value.F, 77) }, func() { spoil(s.Value.I, 77) }, func() { spoil(s.Value.B, true) })
}

// copyOf is a setting in memory of its own.
func copyOf(s api.Setting) api.Setting {
	for _, l := range []*[]int{&s.Axes, &s.Perm, &s.Kernel, &s.Strides, &s.Pads, &s.Dilations, &s.Value.Dims} {
		*l = slices.Clone(*l)
	}
	s.Value.F, s.Value.I, s.Value.B = slices.Clone(s.Value.F), slices.Clone(s.Value.I), slices.Clone(s.Value.B)
	return s
}

// copyNode is a node in memory of its own.
func copyNode(n api.Node) api.Node {
	n.In, n.Out, n.Attrs = slices.Clone(n.In), slices.Clone(n.Out), slices.Clone(n.Attrs)
	for i := range n.Attrs {
		a := &n.Attrs[i]
		a.T.Dims, a.T.F, a.T.I, a.T.B = slices.Clone(a.T.Dims), slices.Clone(a.T.F), slices.Clone(a.T.I), slices.Clone(a.T.B)
		a.Floats, a.Ints = slices.Clone(a.Floats), slices.Clone(a.Ints)
	}
	return n
}

// spoilNode writes over all lists of a node.
func spoilNode(n api.Node) {
	for _, a := range n.Attrs {
		spoil(a.T.Dims, 78)
		spoil(a.T.F, 78)
		spoil(a.T.I, 78)
		spoil(a.T.B, true)
		spoil(a.Floats, 78)
		spoil(a.Ints, 78)
	}
	spoil(n.In, "spoilt")
	spoil(n.Out, "spoilt")
	spoil(n.Attrs, api.Attr{Name: "spoilt"})
}

// roomy is a node whose lists have room behind what they hold.
func roomy(n api.Node) api.Node {
	n = copyNode(n)
	n.In, n.Out, n.Attrs = slices.Grow(n.In, 3), slices.Grow(n.Out, 3), slices.Grow(n.Attrs, 3)
	for i := range n.Attrs {
		a := &n.Attrs[i]
		a.T.Dims, a.T.F, a.T.I, a.T.B = slices.Grow(a.T.Dims, 3), slices.Grow(a.T.F, 3), slices.Grow(a.T.I, 3), slices.Grow(a.T.B, 3)
		a.Floats, a.Ints = slices.Grow(a.Floats, 3), slices.Grow(a.Ints, 3)
	}
	return n
}

// listed are nodes whose settings have lists.
func listed(s *seeds.Seed) []api.Node {
	var all []api.Node
	for _, r := range wantRows() {
		for _, w := range r.attrs {
			if k := wantKind(w.sort); k < api.AttrTensor {
				continue
			}
			for _, a := range fits(r.name, w) {
				all = append(all, with(r, a))
			}
		}
		for range 3 {
			all = append(all, full(s, r), with(r))
		}
	}
	mixed := api.Tensor{Type: api.Int, Dims: []int{2, 2}, F: []uint32{1, 2}, I: []int64{3, 4}, B: []bool{false, false}}
	return append(all, node("Constant", 0, 1, tensor("value", mixed)))
}

// R3: what is handed in stays as it was, the room of its lists, too.
func TestHandedInStays(t *testing.T) {
	s := seeds.Seed(84)
	for _, plainNode := range listed(&s) {
		n := roomy(plainNode)
		spoilRoom(n)
		before := copyNode(n)
		room := roomOf(n)
		ops.Resolve(n)
		if !reflect.DeepEqual(n, before) || !reflect.DeepEqual(roomOf(n), room) {
			t.Errorf("Resolve changed %s into %s", short(before), short(n))
		}
	}
}

// spoilRoom puts something into the room behind a node's lists.
func spoilRoom(n api.Node) {
	for _, a := range n.Attrs {
		spoil(a.Ints[len(a.Ints):], 79)
		spoil(a.Floats[len(a.Floats):], 79)
		spoil(a.T.Dims[len(a.T.Dims):], 79)
	}
	spoil(n.In[len(n.In):], "room")
	spoil(n.Out[len(n.Out):], "room")
	spoil(n.Attrs[len(n.Attrs):], api.Attr{Name: "room"})
}

// roomOf is what stands in the room of a node's lists.
func roomOf(n api.Node) []any {
	all := []any{slices.Clone(n.In[len(n.In):cap(n.In)]), slices.Clone(n.Out[len(n.Out):cap(n.Out)]), slices.Clone(n.Attrs[len(n.Attrs):cap(n.Attrs)])}
	for _, a := range n.Attrs {
		all = append(all, slices.Clone(a.Ints[len(a.Ints):cap(a.Ints)]), slices.Clone(a.Floats[len(a.Floats):cap(a.Floats)]), slices.Clone(a.T.Dims[len(a.T.Dims):cap(a.T.Dims)]))
	}
	return all
}

// R3: lists in the answer are new memory: neither the node's nor each other's.
func TestNewMemory(t *testing.T) {
	s := seeds.Seed(85)
	for _, n := range listed(&s) {
		n = roomy(n)
		op, want, err := wantResolve(copyNode(n))
		_, got, _ := ops.Resolve(n)
		again := copyNode(n)
		spoilNode(n)
		if !alike(got, want) {
			t.Errorf("of %s: the answer is the node's own memory", short(again))
		}
		for i := range spoilers(got) {
			_, got, _ := ops.Resolve(again)
			_, kept, _ := ops.Resolve(again)
			was := copyOf(got)
			all := spoilers(got)
			all[i]()
			for j, other := range spoilers(was) {
				if i == j {
					other()
				}
			}
			if !alike(got, was) {
				t.Errorf("of %s: two lists share memory", short(again))
			}
			if !alike(kept, want) {
				t.Errorf("of %s: two answers share memory", short(again))
			}
		}
		check(t, again, op, want, err)
	}
}

// R3: so is what Attrs answers.
func TestAttrsNewMemory(t *testing.T) {
	for _, r := range wantRows() {
		got := ops.Attrs(r.op)
		spoil(got, "spoilt")
		again := ops.Attrs(r.op)
		for i, w := range r.attrs {
			if again[i] != w.name {
				t.Errorf("Attrs of %s: %q", r.name, again)
			}
		}
	}
}

// R4: beside an error all is zero, lists too.
func TestZeroBesideErrors(t *testing.T) {
	for _, r := range wantRows() {
		for _, w := range r.attrs {
			for _, a := range fits(r.name, w) {
				n := with(r, a)
				n.Attrs = append(n.Attrs, number("none", 0))
				if op, s, err := ops.Resolve(n); op != 0 || !reflect.DeepEqual(s, api.Setting{}) || err != api.ErrAttr {
					t.Errorf("%s: %d, %s, %v", short(n), op, short(s), err)
				}
				n.Out = nil
				if op, s, err := ops.Resolve(n); op != 0 || !reflect.DeepEqual(s, api.Setting{}) || err != api.ErrArg {
					t.Errorf("%s: %d, %s, %v", short(n), op, short(s), err)
				}
			}
		}
	}
}

// R1: wrong inputs of all sorts end in an error.
func TestWrongInputs(t *testing.T) {
	long := strings.Repeat("x", 1<<20)
	checkErr(t, api.Node{}, api.ErrUnsupported)
	checkErr(t, api.Node{Op: long}, api.ErrUnsupported)
	checkErr(t, api.Node{Op: "Abs", In: nil, Out: []string{"y"}}, api.ErrArg)
	checkErr(t, api.Node{Op: "Abs", In: make([]string, 1<<20), Out: make([]string, 1<<20)}, api.ErrArg)
	checkErr(t, api.Node{Op: "Concat", In: names("x", 1<<16), Out: []string{"y"}}, api.ErrArg)
	checkErr(t, node("Abs", 1, 1, make([]api.Attr, 1<<16)...), api.ErrAttr)
	checkErr(t, node("Softmax", 1, 1, times(1<<16, number("axis", 0))...), api.ErrAttr)
	checkErr(t, node("Softmax", 1, 1, number(long, 0)), api.ErrAttr)
	checkErr(t, node("Pad", 2, 1, text("mode", long)), api.ErrAttr)
	checkErr(t, node("Transpose", 1, 1, numbers("perm", make([]int64, 1<<20)...)), api.ErrAttr)
	checkErr(t, node("Constant", 0, 1, floats("value_floats", make([]uint32, 1<<20)...)), api.ErrAttr)
	checkErr(t, node("Constant", 0, 1, numbers("value_ints", make([]int64, 1<<20)...)), api.ErrAttr)
	checkErr(t, node("ConstantOfShape", 1, 1, tensor("value", api.Tensor{F: make([]uint32, 1<<20)})), api.ErrAttr)
	checkErr(t, node("Cast", 1, 1, number("to", math.MinInt64)), api.ErrAttr)
}
