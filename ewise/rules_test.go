package ewise_test

import (
	"math"
	"reflect"
	"slices"
	"testing"

	"lattice/api"
	"lattice/ewise"
	"lattice/seeds"
	"lattice/soft"
)

// span is the memory of a list, its room too.
type span struct{ from, to uintptr }

// spans are those of all lists within a value.
func spans(v reflect.Value) []span {
	var all []span
	switch v.Kind() {
	case reflect.Struct:
		for i := range v.NumField() {
			all = append(all, spans(v.Field(i))...)
		}
	case reflect.Slice:
		if size := uintptr(v.Cap()) * v.Type().Elem().Size(); size > 0 {
			all = append(all, span{v.Pointer(), v.Pointer() + size})
		}
		for i := range v.Len() {
			all = append(all, spans(v.Index(i))...)
		}
	}
	return all
}

// apart: does no list of the answers share memory with another one, or with one of what was handed in?
func apart(in []api.Tensor, answers ...any) bool {
	var own []span
	for _, a := range answers {
		own = append(own, spans(reflect.ValueOf(a))...)
	}
	given := spans(reflect.ValueOf(in))
	for i, a := range own {
		for j, b := range append(slices.Clone(own), given...) {
			if i != j && a.from < b.to && b.from < a.to {
				return false
			}
		}
	}
	return true
}

// roomy is a list in memory of its own, with room behind it, in which something stands.
func roomy[E any](list []E, room E) []E {
	return slices.Concat(list, []E{room, room, room})[:len(list)]
}

func roomyTensor(t api.Tensor) api.Tensor {
	return api.Tensor{Type: t.Type, Dims: roomy(t.Dims, 77), F: roomy(t.F, 77), I: roomy(t.I, 77), B: roomy(t.B, true)}
}

// withRoom is a list with the room behind it, in memory of its own.
func withRoom[E any](list []E) []E { return slices.Clone(list[:cap(list)]) }

// inside are tensors with all that stands in the room of their lists, in memory of their own.
func inside(in []api.Tensor) []api.Tensor {
	var all []api.Tensor
	for _, t := range in {
		all = append(all, api.Tensor{Type: t.Type, Dims: withRoom(t.Dims), F: withRoom(t.F), I: withRoom(t.I), B: withRoom(t.B)})
	}
	return all
}

// R3: what is handed in stays as it was, its room too; what is answered is new memory, no two lists of which share any, and nothing is kept.
func TestMemory(t *testing.T) {
	m := maker{seeds.Seed(1108)}
	for i := range 8000 {
		n := m.any(1 + i%44)
		if m.below(4) == 0 {
			m.spoil(&n)
		}
		in := make([]api.Tensor, len(n.in), len(n.in)+2)
		for i := range n.in {
			in[i] = roomyTensor(n.in[i])
		}
		before := inside(in)
		want, _ := wantDo(n.op, n.s, n.in)
		whole, err := ewise.Do(n.op, n.s, in)
		again, _ := ewise.Do(n.op, n.s, in)
		size := len(want.F) + len(want.I) + len(want.B)
		some, _ := ewise.Part(n.op, n.s, in, 0, size)
		vals := ewise.Vals(in)
		if !slices.EqualFunc(inside(in), before, alike) || len(in) != len(before) {
			t.Fatalf("operator %d changed %s", n.op, told(n.in))
		}
		if !apart(in, whole, again, some, vals) {
			t.Fatalf("operator %d, %s: lists share memory", n.op, told(n.in))
		}
		for i := range in {
			spoilTensor(in[i])
		}
		spoilTensor(again)
		spoilTensor(some)
		if !alike(whole, want) || err != api.OK && !isZero(whole) {
			t.Fatalf("operator %d, %s: became %s, want %s", n.op, told(n.in), told([]api.Tensor{whole}), told([]api.Tensor{want}))
		}
		for i, v := range vals {
			if v.Const && !alike(v.T, n.in[i]) {
				t.Fatalf("the value of %s became %+v", told(n.in[i:]), v)
			}
		}
	}
}

func spoilTensor(t api.Tensor) {
	for i := range t.Dims {
		t.Dims[i] = -7
	}
	for i := range t.F {
		t.F[i] = 0xDEADBEEF
	}
	for i := range t.I {
		t.I[i] = -77
	}
	for i := range t.B {
		t.B[i] = !t.B[i]
	}
}

// R3: inputs that are one another's memory are worked on as any others.
func TestSharedInputs(t *testing.T) {
	x := tensor("i2.2:1,-2,3,-4")
	answers(t, api.OpSub, plain, []api.Tensor{x, x}, "i2.2:0,0,0,0")
	answers(t, api.OpMod, plain, []api.Tensor{x, x}, "i2.2:0,0,0,0")
	one := tensor("i1:5")
	answers(t, api.OpMul, plain, []api.Tensor{one, one}, "i:25")
	if !apart([]api.Tensor{one, one}, ewise.Vals([]api.Tensor{one, one})) {
		t.Error("values share memory")
	}
}

// The chapter's words: each float that is answered is its own Canon, whatever bits come in.
func TestCanon(t *testing.T) {
	m := maker{seeds.Seed(1109)}
	for i := range 8000 {
		n := m.any(1 + i%44)
		got, _ := ewise.Do(n.op, n.s, n.in)
		for _, f := range got.F {
			if soft.Canon(f) != f {
				t.Fatalf("operator %d, %s, %s: %08X", n.op, said(n.s), told(n.in), f)
			}
		}
	}
}

// R7: fields that the operator has no attribute for say nothing.
func TestOtherFields(t *testing.T) {
	odd := api.Setting{Axis: 99, Axes: []int{9, 9}, HasAxes: true, Keep: true, Noop: true, Last: true, Zero: true, Perm: []int{7}, HasPerm: true, Alpha: 0x7F800001, Beta: 0xFFFFFFFF, Epsilon: 1,
		Low: true, High: true, To: 55, Mode: -4, Group: -1, Kernel: []int{1}, Strides: []int{0}, Pads: []int{-1}, Dilations: []int{0}, Auto: 77, Ceil: true, Block: -3, Start: 9, End: -9, HasEnd: true, Value: api.Tensor{Type: 4}}
	for _, s := range []api.Setting{odd, {Fmod: true}, {}} {
		gives(t, api.OpAdd, s, "f:3F800000 f:40000000", "f:40400000")
		gives(t, api.OpDiv, s, "i:-7 i:2", "i:-3")
		gives(t, api.OpRelu, s, "f:BF800000,3F800000", "f:00000000,3F800000")
		gives(t, api.OpPRelu, s, "f:BF800000 f:3F000000", "f:BF000000")
		gives(t, api.OpClip, s, "i:5 i.:1 i.:3", "i:3")
		gives(t, api.OpWhere, s, "b:0 i:5 i:6", "i:6")
		gives(t, api.OpIsNaN, s, "f:7F800001", "b:1")
		gives(t, api.OpSign, s, "i:-5", "i:-1")
	}
}

// odds are numbers that are most often wrong.
func odds() []int {
	return []int{math.MinInt, math.MinInt + 1, -1 << 32, -1, 0, 1, 2, 7, 9, 4096, 4097, 1 << 32, math.MaxInt}
}

// R1, R4: whatever is handed in, each call ends, and answers nothing beside an error.
func TestWrongArguments(t *testing.T) {
	for op := -1; op <= 46; op++ {
		for _, n := range odds() {
			s := api.Setting{Axis: n, To: n, Mode: n, Alpha: uint32(n), Beta: uint32(n), Axes: []int{n}, Perm: []int{n}, Value: api.Tensor{Type: n, Dims: []int{n}}}
			for _, x := range []api.Tensor{{}, {Type: n}, {Type: api.Float, Dims: []int{n}}, {Type: api.Int, Dims: []int{n, n, 0}}, {Type: n, Dims: []int{1}, F: []uint32{1}, I: []int64{0}, B: []bool{true}}, tensor("i.:0"), tensor("f1:7F800001"), tensor("b0:")} {
				for count := range 5 {
					in := slices.Repeat([]api.Tensor{x}, count)
					holds(t, op, s, in...)
					hi := odds()[(op+count+1)%len(odds())]
					got, err := ewise.Part(op, s, in, n, hi)
					want, wantErr := wantPart(op, s, in, n, hi)
					if err != wantErr || !alike(got, want) {
						t.Fatalf("operator %d, %s from %d to %d: %s, want %s", op, told(in), n, hi, words(got, err), words(want, wantErr))
					}
				}
			}
		}
	}
}

// R1: lists that are far too long.
func TestLongLists(t *testing.T) {
	const n = 1 << 17
	long := slices.Repeat([]int{1}, n)
	answers(t, api.OpRelu, plain, []api.Tensor{{Type: api.Float, Dims: long, F: []uint32{1}}}, "ErrSize")
	answers(t, api.OpRelu, plain, []api.Tensor{{Type: api.Float, Dims: []int{n}, F: make([]uint32, n)}}, "ErrSize")
	answers(t, api.OpRelu, plain, []api.Tensor{{Type: api.Float, Dims: []int{1}, F: make([]uint32, n)}}, "ErrShape")
	answers(t, api.OpAdd, plain, slices.Repeat([]api.Tensor{tensor("i:1")}, n), "ErrArg")
	answers(t, api.OpAdd, plain, make([]api.Tensor, n), "ErrArg")
	if vals := ewise.Vals(slices.Repeat([]api.Tensor{tensor("i:1")}, n)); len(vals) != n || !vals[n-1].Const {
		t.Errorf("%d values", len(vals))
	}
}
