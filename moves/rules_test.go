package moves_test

import (
	"math"
	"reflect"
	"slices"
	"testing"

	"lattice/api"
	"lattice/moves"
	"lattice/seeds"
	"lattice/soft"
)

// span is the memory of a list, its room too.
type span struct{ from, to uintptr }

// spans are those of all lists within a value.
func spans(v reflect.Value) []span {
	var all []span
	switch v.Kind() {
	case reflect.Struct:
		for i := range v.NumField() {
			all = append(all, spans(v.Field(i))...)
		}
	case reflect.Slice:
		if size := uintptr(v.Cap()) * v.Type().Elem().Size(); size > 0 {
			all = append(all, span{v.Pointer(), v.Pointer() + size})
		}
		for i := range v.Len() {
			all = append(all, spans(v.Index(i))...)
		}
	}
	return all
}

// apart: does no list of the answers share memory with another one, or with one of what was handed in?
func apart(in, answers any) bool {
	own, given := spans(reflect.ValueOf(answers)), spans(reflect.ValueOf(in))
	for i, a := range own {
		for j, b := range append(slices.Clone(own), given...) {
			if i != j && a.from < b.to && b.from < a.to {
				return false
			}
		}
	}
	return true
}

// roomy is a list in memory of its own, with room behind it, in which something stands.
func roomy[E any](list []E, room E) []E {
	return slices.Concat(list, []E{room, room, room})[:len(list)]
}

func roomyTensor(t api.Tensor) api.Tensor {
	return api.Tensor{Type: t.Type, Dims: roomy(t.Dims, 77), F: roomy(t.F, 77), I: roomy(t.I, 77), B: roomy(t.B, true)}
}

// withRoom is a list with the room behind it, in memory of its own.
func withRoom[E any](list []E) []E { return slices.Clone(list[:cap(list)]) }

// inside are tensors with all that stands in the room of their lists, in memory of their own.
func inside(in ...api.Tensor) []api.Tensor {
	var all []api.Tensor
	for _, t := range in {
		all = append(all, api.Tensor{Type: t.Type, Dims: withRoom(t.Dims), F: withRoom(t.F), I: withRoom(t.I), B: withRoom(t.B)})
	}
	return all
}

// R3: what is handed in stays as it was, its room too; what is answered is new memory, no two lists of which share any, and nothing is kept.
func TestMemory(t *testing.T) {
	m := maker{seeds.Seed(1207)}
	ops := all()
	for i := range 15000 {
		n := m.any(ops[i%len(ops)])
		if m.below(5) == 0 {
			m.spoil(&n)
		}
		in := make([]api.Tensor, len(n.in), len(n.in)+2)
		for i := range n.in {
			in[i] = roomyTensor(n.in[i])
		}
		s := n.s
		s.Perm, s.Value = roomy(n.s.Perm, 77), roomyTensor(n.s.Value)
		before, perm, value := inside(in...), withRoom(s.Perm), inside(s.Value)
		want, _ := wantDo(n.op, n.s, n.in, n.outs)
		got, _ := moves.Do(n.op, s, in, n.outs)
		again, _ := moves.Do(n.op, s, in, n.outs)
		if !slices.EqualFunc(inside(in...), before, alike) || !slices.Equal(withRoom(s.Perm), perm) || !slices.EqualFunc(inside(s.Value), value, alike) {
			t.Fatalf("operator %d, %s, %s: changed", n.op, said(n.s), told(n.in))
		}
		if !apart([]any{in, s}, slices.Concat(got, again)) || !apart(in, got) || !apart(s, got) {
			t.Fatalf("operator %d, %s, %s: lists share memory", n.op, said(n.s), told(n.in))
		}
		for _, t := range slices.Concat(in, again, []api.Tensor{s.Value}) {
			spoilTensor(t)
		}
		if !slices.EqualFunc(got, want, alike) {
			t.Fatalf("operator %d, %s: became %s, want %s", n.op, told(n.in), told(got), told(want))
		}
	}
}

func spoilTensor(t api.Tensor) {
	for i := range t.Dims {
		t.Dims[i] = -7
	}
	for i := range t.F {
		t.F[i] = 0xDEADBEEF
	}
	for i := range t.I {
		t.I[i] = -77
	}
	for i := range t.B {
		t.B[i] = !t.B[i]
	}
}

// R3: inputs that are one another's memory are taken as any others.
func TestSharedInputs(t *testing.T) {
	x := tensor("i:1,0")
	answers(t, api.OpConcat, plain, []api.Tensor{x, x, x}, 1, "i:1,0,1,0,1,0")
	answers(t, api.OpGather, plain, []api.Tensor{x, x}, 1, "i:0,1")
	answers(t, api.OpGatherElements, plain, []api.Tensor{x, x}, 1, "i:0,1")
	answers(t, api.OpScatterElements, plain, []api.Tensor{x, x, x}, 1, "i:0,1")
	answers(t, api.OpScatterElements, by(api.ModeAdd), []api.Tensor{x, x, x}, 1, "i:1,1")
	answers(t, api.OpPad, plain, []api.Tensor{x, x}, 1, "i:0,1,0")
	answers(t, api.OpSlice, plain, []api.Tensor{tensor("i:1"), tensor("i:0"), tensor("i:1")}, 1, "i:1")
	v := tensor("i:3")
	answers(t, api.OpConstantOfShape, api.Setting{Value: v}, []api.Tensor{v}, 1, "i:3,3,3")
}

// The chapter's words: each float that is answered is its own Canon, whatever bits come in; by each operator.
func TestCanon(t *testing.T) {
	m := maker{seeds.Seed(1208)}
	ops := all()
	odd := map[int]bool{}
	for i := range 15000 {
		n := m.any(ops[i%len(ops)])
		list, _ := moves.Do(n.op, n.s, n.in, n.outs)
		for _, f := range append(n.in, n.s.Value)[0].F {
			odd[n.op] = odd[n.op] || soft.Canon(f) != f
		}
		for _, x := range list {
			for _, f := range x.F {
				if soft.Canon(f) != f {
					t.Fatalf("operator %d, %s, %s: %08X", n.op, said(n.s), told(n.in), f)
				}
			}
		}
	}
	for _, op := range ops {
		if !odd[op] && op != api.OpConstantOfShape {
			t.Errorf("operator %d was never handed another no number", op)
		}
	}
}

// R7: fields that the operator has no attribute for say nothing.
func TestOtherFields(t *testing.T) {
	odd := api.Setting{Axes: []int{9, 9}, HasAxes: true, Keep: true, Noop: true, Last: true, Alpha: 0x7F800001, Beta: 0xFFFFFFFF, Epsilon: 1, Low: true, High: true, Fmod: true,
		To: 55, TransA: true, TransB: true, Group: -1, Kernel: []int{1}, Strides: []int{0}, Pads: []int{-1}, Dilations: []int{0}, Auto: 77, Ceil: true, Count: true}
	m := maker{seeds.Seed(1209)}
	ops := all()
	for i := range 6000 {
		n := m.any(ops[i%len(ops)])
		want, wantErr := wantDo(n.op, n.s, n.in, n.outs)
		s := odd
		s.Axis, s.Zero, s.Perm, s.HasPerm, s.Mode, s.Block, s.Start, s.End, s.HasEnd, s.Value = n.s.Axis, n.s.Zero, n.s.Perm, n.s.HasPerm, n.s.Mode, n.s.Block, n.s.Start, n.s.End, n.s.HasEnd, n.s.Value
		if got, err := moves.Do(n.op, s, n.in, n.outs); err != wantErr || !slices.EqualFunc(got, want, alike) {
			t.Fatalf("operator %d, %s, %s: %s, want %s", n.op, said(n.s), told(n.in), words(got, err), words(want, wantErr))
		}
	}
	strange := api.Setting{Axis: 99, Zero: true, Perm: []int{7}, HasPerm: true, Mode: -4, Block: -3, Start: 9, End: -9, HasEnd: true, Value: api.Tensor{Type: 4}}
	gives(t, api.OpReshape, strange, "i:1,2 i:1,2", "i1.2:1,2")
	gives(t, api.OpSlice, strange, "i:1,2 i:1 i:2", "i:2")
	gives(t, api.OpPad, strange, "i:1,2 i:1,0 i.:7", "i:7,1,2")
	gives(t, api.OpTile, strange, "i:1,2 i:2", "i:1,2,1,2")
	gives(t, api.OpExpand, strange, "i:1 i:2", "i:1,1")
	gives(t, api.OpSqueeze, strange, "i1:1", "i.:1")
	gives(t, api.OpUnsqueeze, strange, "i:1 i:0", "i1.1:1")
	gives(t, api.OpSize, strange, "i:1", "i.:1")
	gives(t, api.OpShape, strange, "i:1", "i:")
}

// odds are numbers that are most often wrong.
func odds() []int {
	return []int{math.MinInt, -1 << 32, -1, 0, 1, 2, 7, 4097, math.MaxInt}
}

// R1, R4: whatever is handed in, each call ends, and answers nothing beside an error.
func TestWrongArguments(t *testing.T) {
	for op := 43; op <= 66; op++ {
		for _, n := range odds() {
			s := api.Setting{Axis: n, To: n, Mode: n, Block: n, Start: n, End: n, HasEnd: n > 0, Axes: []int{n}, Perm: []int{n}, HasPerm: n < 0, Value: api.Tensor{Type: n, Dims: []int{n}}}
			for _, x := range []api.Tensor{{}, {Type: n}, {Type: api.Float, Dims: []int{n}}, {Type: api.Int, Dims: []int{n, n, 0}}, {Type: n, Dims: []int{1}, F: []uint32{1}, I: []int64{0}, B: []bool{true}}, tensor("i.:0"), tensor("f1:7F800001"), tensor("b0:"), ints(n)} {
				for count := range 5 {
					holds(t, node{op, s, slices.Repeat([]api.Tensor{x}, count), 1})
					holds(t, node{op, s, slices.Repeat([]api.Tensor{x}, count), n})
				}
			}
		}
	}
}

// R1: lists that are far too long.
func TestLongLists(t *testing.T) {
	const n = 1 << 17
	long := slices.Repeat([]int{1}, n)
	answers(t, api.OpTranspose, plain, []api.Tensor{{Type: api.Float, Dims: long, F: []uint32{1}}}, 1, "ErrSize")
	answers(t, api.OpTranspose, plain, []api.Tensor{{Type: api.Float, Dims: []int{n}, F: make([]uint32, n)}}, 1, "ErrSize")
	answers(t, api.OpTranspose, plain, []api.Tensor{{Type: api.Float, Dims: []int{1}, F: make([]uint32, n)}}, 1, "ErrShape")
	answers(t, api.OpTranspose, order(long...), tensors("i:1"), 1, "ErrAttr")
	answers(t, api.OpConcat, plain, slices.Repeat(tensors("i:1"), n), 1, "ErrArg")
	answers(t, api.OpSplit, plain, make([]api.Tensor, n), 1, "ErrArg")
	answers(t, api.OpConstantOfShape, api.Setting{Value: api.Tensor{Type: api.Int, Dims: long, I: []int64{1}}}, tensors("i:1"), 1, "ErrAttr")
	answers(t, api.OpPad, plain, []api.Tensor{tensor("i:1,2"), ints(1, 0), {Dims: long, I: make([]int64, n)}}, 1, "i:0,1,2")
	// Told lists as long as may be.
	most := make([]int, api.MaxElems)
	answers(t, api.OpReshape, plain, []api.Tensor{tensor("i:1"), ints(most...)}, 1, "ErrSize")
	answers(t, api.OpUnsqueeze, plain, []api.Tensor{tensor("i:1"), ints(most...)}, 1, "ErrSize")
	answers(t, api.OpSlice, plain, []api.Tensor{tensor("i:1"), ints(most...), ints(most...)}, 1, "ErrShape")
	answers(t, api.OpPad, plain, []api.Tensor{tensor("i:1"), ints(most...)}, 1, "ErrShape")
	answers(t, api.OpConstantOfShape, api.Setting{Value: tensor("i:1")}, []api.Tensor{ints(most...)}, 1, "ErrSize")
}

// The greatest tensors, along one dim and along many.
func TestGreatest(t *testing.T) {
	line, cube := counted(4096), counted(2, 4, 2, 4, 2, 4, 2, 4)
	turned := order(7, 0, 6, 1, 5, 2, 4, 3)
	for _, n := range []node{
		{api.OpTranspose, turned, []api.Tensor{cube}, 1},
		{api.OpReshape, plain, []api.Tensor{cube, ints(-1)}, 1},
		{api.OpSlice, plain, []api.Tensor{line, ints(-1), ints(math.MinInt), ints(0), ints(-1)}, 1},
		{api.OpGather, plain, []api.Tensor{line, line}, 1},
		{api.OpGatherElements, plain, []api.Tensor{line, line}, 1},
		{api.OpScatterElements, by(api.ModeAdd), []api.Tensor{line, line, line}, 1},
		{api.OpPad, by(api.ModeReflect), []api.Tensor{counted(32, 32), ints(31, 15, 1, 17)}, 1},
		{api.OpTile, plain, []api.Tensor{counted(1), ints(4096)}, 1},
		{api.OpExpand, plain, []api.Tensor{counted(2, 1, 2), ints(1024, 2, 1, 2)}, 1},
		{api.OpSplit, plain, []api.Tensor{line}, 64},
		{api.OpDepthToSpace, cut(64, api.ModeCRD), []api.Tensor{counted(1, 4096, 1, 1)}, 1},
		{api.OpSpaceToDepth, cut(64, 0), []api.Tensor{counted(1, 1, 64, 64)}, 1},
	} {
		holds(t, n)
		if _, err := moves.Do(n.op, n.s, n.in, n.outs); err != api.OK {
			t.Errorf("operator %d, %s: %v", n.op, said(n.s), err)
		}
	}
}
