package infer_test

import (
	"math"
	"strings"
	"testing"

	"lattice/api"
)

// row is an input's words, and what is answered.
type row struct{ in, want string }

// table: of one setting, many rows.
func table(t *testing.T, op int, s api.Setting, rows ...row) {
	t.Helper()
	for _, r := range rows {
		says(t, op, s, r.in, r.want)
	}
}

// P10.1: Transpose, by an order, and without.
func TestTranspose(t *testing.T) {
	perm := func(list ...int) api.Setting { return api.Setting{Perm: list, HasPerm: true} }
	table(t, api.OpTranspose, plain, row{"f2.3.4", "f4.3.2"}, row{"i2.3", "i3.2"}, row{"b5", "b5"}, row{"f", "f"}, row{"f0.3", "f3.0"})
	table(t, api.OpTranspose, perm(1, 2, 0), row{"f2.3.4", "f3.4.2"}, row{"f2.3", "ErrAttr"}, row{"f2.3.4.5", "ErrAttr"})
	table(t, api.OpTranspose, perm(0, 1), row{"i2.3", "i2.3"})
	table(t, api.OpTranspose, perm(), row{"b", "b"}, row{"f1", "ErrAttr"}, row{"f2.3", "ErrAttr"})
	table(t, api.OpTranspose, perm(7, 6, 5, 4, 3, 2, 1, 0), row{"f1.2.3.1.2.3.1.2", "f2.1.3.2.1.3.2.1"})
	for _, list := range [][]int{{0, 0}, {1, 1}, {0, 2}, {-1, 0}, {0, -1}, {0}, {0, 1, 2}, {0, 1, 1}, {1, math.MinInt}, {math.MaxInt, 0}} {
		says(t, api.OpTranspose, perm(list...), "f2.2", "ErrAttr")
	}
	// Whether there is an order the flag tells, not the list.
	says(t, api.OpTranspose, api.Setting{Perm: []int{0, 1}}, "f2.3", "f3.2")
	says(t, api.OpTranspose, api.Setting{Perm: []int{5, 5, 5}}, "f2.3", "f3.2")
}

// P10.1: Reshape.
func TestReshape(t *testing.T) {
	table(t, api.OpReshape, plain,
		row{"f2.6 t12", "f12"}, row{"f2.6 t3,4", "f3.4"}, row{"f2.6 t3,2,2", "f3.2.2"}, row{"i2.6 t-1", "i12"}, row{"b2.6 t4,-1", "b4.3"},
		row{"f2.6 t0,6", "f2.6"}, row{"f2.6 t0,0", "f2.6"}, row{"f2.6 t2,0", "f2.6"}, row{"f2.6 t0,-1", "f2.6"}, row{"f2.6 t-1,0", "f2.6"},
		row{"f2.6 t0,0,1", "f2.6.1"}, row{"f2.6 t0,0,-1", "f2.6.1"}, row{"f2.6 t-1,0,1", "f2.6.1"}, row{"f2.6 t1,1,1,1,1,1,12,1", "f1.1.1.1.1.1.12.1"},
		row{"f2.6 t0,0,0", "ErrShape"}, row{"f2.6 t1,2,6,0", "ErrShape"}, row{"f2.6 t6,0", "ErrShape"}, row{"f2.6 t0,2", "ErrShape"},
		row{"f2.6 t13", "ErrShape"}, row{"f2.6 t11", "ErrShape"}, row{"f2.6 t5,-1", "ErrShape"}, row{"f2.6 t24,-1", "ErrShape"}, row{"f2.6 t-1,-1", "ErrShape"},
		row{"f2.6 t12,-1,-1", "ErrShape"}, row{"f2.6 t-2", "ErrShape"}, row{"f2.6 t-2,-6", "ErrShape"}, row{"f2.6 t-3,-4", "ErrShape"}, row{"f2.6 t12,-2", "ErrShape"},
		row{"f2.6 t", "ErrShape"}, row{"f t", "f"}, row{"f1.1 t", "f"}, row{"f t1,1", "f1.1"}, row{"f t-1", "f1"}, row{"f t0", "ErrShape"}, row{"f5 t", "ErrShape"},
		row{"f2.6 t4096,4096", "ErrShape"}, row{"f4096 t64,64", "f64.64"}, row{"f4096 t4096,-1", "f4096.1"}, row{"f4096 t4096,1", "f4096.1"},
		row{"f2.6 t4097", "ErrSize"}, row{"f2.6 t1,1,1,1,1,1,1,12,1", "ErrSize"}, row{"f2.6 t-2,-2,-2,-2,-2,-2,-2,-2,-2", "ErrSize"},
		row{"f2.6 t0,-2,4097", "ErrSize"}, row{"f2.6 t0,-2,4096", "ErrShape"})
	// Of tensors without elements.
	table(t, api.OpReshape, plain,
		row{"f0 t0", "f0"}, row{"f0.3 t0,0", "f0.3"}, row{"f0.3 t0,7", "f0.7"}, row{"f3.0 t0", "ErrShape"}, row{"f3.0 t0,0,5", "f3.0.5"}, row{"f0 t-1", "f0"},
		row{"f0 t5,-1", "f5.0"}, row{"f0 t-1,4096", "f0.4096"}, row{"f0 t-1,4096,2", "ErrShape"}, row{"f0 t0,-1", "ErrShape"}, row{"f0 t0,4096,4096", "f0.4096.4096"},
		row{"f3.0 t1,0,-1", "ErrShape"}, row{"f0 t4096,4096,4096,4096,4096,4096,-1", "ErrShape"}, row{"f0 t4096,4096,4096,4096,4096,4096", "ErrShape"})
	// A 0 is a 0, if Zero.
	table(t, api.OpReshape, api.Setting{Zero: true},
		row{"f2.6 t0,6", "ErrShape"}, row{"f2.6 t12", "f12"}, row{"f0.3 t0", "f0"}, row{"f0.3 t5,0", "f5.0"}, row{"f3.0 t0,0,0,0", "f0.0.0.0"}, row{"f0 t0,-1", "ErrShape"},
		row{"f0 t4096,4096,0", "f4096.4096.0"}, row{"f t0", "ErrShape"}, row{"f2.6 t0,-1", "ErrShape"}, row{"f0 t2,-1", "f2.0"}, row{"f2.6 t3,-1", "f3.4"})
}

// P10.1: Concat.
func TestConcat(t *testing.T) {
	axis := func(n int) api.Setting { return api.Setting{Axis: n} }
	table(t, api.OpConcat, axis(0), row{"f2.3", "f2.3"}, row{"f2.3 f4.3", "f6.3"}, row{"i2 i3 i4", "i9"}, row{"b0.3 b2.3", "b2.3"}, row{"f2.0 f3.0", "f5.0"},
		row{"f2.3 f2.4", "ErrShape"}, row{"f2.3 f2", "ErrShape"}, row{"f2 f2.3", "ErrShape"}, row{"f2.3 f2.3 f2.4", "ErrShape"}, row{"f2.3 f2.3 f2.3.1", "ErrShape"},
		row{"f2.3 i2.3", "ErrType"}, row{"f2 f2 b2", "ErrType"}, row{"f2 -", "ErrType"}, row{"f2 f2 - f2", "ErrType"}, row{"f", "ErrAttr"}, row{"f f", "ErrAttr"},
		row{"f4095 f1", "f4096"}, row{"f4096 f1", "ErrSize"}, row{"f64.63 f1.63", "f65.63"}, row{"f64.63 f2.63", "ErrSize"}, row{"f4096.0 f1.0", "ErrSize"})
	table(t, api.OpConcat, axis(1), row{"f2.3 f2.4", "f2.7"}, row{"f2.3 f3.3", "ErrShape"}, row{"f2.3.4 f2.1.4 f2.2.4", "f2.6.4"}, row{"f2.3.4 f2.3.5", "ErrShape"}, row{"f2", "ErrAttr"}, row{"f2 f2", "ErrAttr"})
	table(t, api.OpConcat, axis(-1), row{"f2.3 f2.4", "f2.7"}, row{"f2 f3", "f5"}, row{"f2.3 f3.3", "ErrShape"})
	table(t, api.OpConcat, axis(-2), row{"f2.3 f3.3", "f5.3"}, row{"f2", "ErrAttr"})
	// The axis is one of the first input's.
	table(t, api.OpConcat, axis(1), row{"f2.3 f2", "ErrShape"}, row{"f2 f2.3", "ErrAttr"})
	says(t, api.OpConcat, axis(0), strings.Repeat("f64 ", 64), "f4096")
	says(t, api.OpConcat, axis(0), strings.Repeat("f64 ", 63)+"f65", "ErrSize")
	says(t, api.OpConcat, axis(0), strings.Repeat("f4096 ", 64), "ErrSize")
	for _, n := range []int{2, -3, 8, -9, math.MaxInt, math.MinInt} {
		says(t, api.OpConcat, axis(n), "f2.3 f2.3", "ErrAttr")
	}
}

// P10.1: Split, into told parts and into equal ones.
func TestSplit(t *testing.T) {
	split := func(axis int, in string, outs int, want string) {
		t.Helper()
		gives(t, api.OpSplit, api.Setting{Axis: axis}, vals(in), outs, want)
	}
	split(0, "f6", 1, "f6")
	split(0, "f6", 2, "f3 f3")
	split(0, "i6.5", 3, "i2.5 i2.5 i2.5")
	split(1, "b2.4", 4, "b2.1 b2.1 b2.1 b2.1")
	split(-1, "f2.4 -", 2, "f2.2 f2.2")
	split(-2, "f2.4", 2, "f1.4 f1.4")
	split(0, "f0", 3, "f0 f0 f0")
	split(0, "f64", 64, strings.TrimSpace(strings.Repeat("f1 ", 64)))
	split(0, "f5", 2, "ErrShape")
	split(0, "f2", 3, "ErrShape")
	split(0, "f63", 64, "ErrShape")
	split(0, "f", 1, "ErrAttr")
	split(1, "f6", 2, "ErrAttr")
	split(2, "f6.2 t6", 1, "ErrAttr")
	split(math.MinInt, "f6", 2, "ErrAttr")
	split(0, "f5 t2,3", 2, "f2 f3")
	split(0, "f5 t5", 1, "f5")
	split(1, "i3.5 t0,5,0", 3, "i3.0 i3.5 i3.0")
	split(0, "f5 t2,2", 2, "ErrShape")
	split(0, "f5 t2,4", 2, "ErrShape")
	split(0, "f5 t-1,6", 2, "ErrShape")
	split(0, "f5 t6,-1", 2, "ErrShape")
	split(0, "f5 t2,3", 1, "ErrShape")
	split(0, "f5 t2,3", 3, "ErrShape")
	split(0, "f5 t5", 2, "ErrShape")
	split(0, "f5 t", 1, "ErrShape")
	split(0, "f0 t", 1, "ErrShape")
	split(0, "f6 t", 2, "ErrShape")
	split(0, "f0 t0", 1, "f0")
	split(0, "f4096 t4096,0", 2, "f4096 f0")
	split(0, "f4096 t4097,-1", 2, "ErrSize")
	split(0, "f5 f2", 2, "ErrType")
	split(0, "f5 i2", 2, "ErrConst")
}

// P10.1: Slice.
func TestSlice(t *testing.T) {
	table(t, api.OpSlice, plain,
		row{"f10 t2 t5", "f3"}, row{"f10 t0 t10", "f10"}, row{"i10 t0 t99", "i10"}, row{"b10 t5 t2", "b0"}, row{"f10 t3 t3", "f0"}, row{"f10 t-3 t-1", "f2"}, row{"f10 t-99 t99", "f10"},
		row{"f10 t10 t99", "f0"}, row{"f10 t9 t99", "f1"}, row{"f10 t-10 t-9", "f1"}, row{"f10 t-11 t-10", "f0"}, row{"f0 t0 t5", "f0"}, row{"f0 t-1 t5", "f0"},
		row{"f4.5 t1 t3", "f2.5"}, row{"f4.5 t1,2 t3,4", "f2.2"}, row{"f4.5 t t", "f4.5"}, row{"f t t", "f"}, row{"f t0 t0", "ErrShape"}, row{"f4.5 t0,0,0 t1,1,1", "ErrShape"},
		row{"f4.5 t1,2 t3", "ErrShape"}, row{"f4.5 t1 t3,4", "ErrShape"})
	// With axes.
	table(t, api.OpSlice, plain,
		row{"f4.5 t1 t3 t1", "f4.2"}, row{"f4.5 t1 t3 t-1", "f4.2"}, row{"f4.5 t1 t3 t-2", "f2.5"}, row{"f4.5 t1,0 t3,1 t1,0", "f1.2"}, row{"f4.5 t1,0 t3,1 t-1,-2", "f1.2"},
		row{"f4.5 t1 t3 t2", "ErrShape"}, row{"f4.5 t1 t3 t-3", "ErrShape"}, row{"f4.5 t1,1 t3,3 t0,0", "ErrShape"}, row{"f4.5 t1,1 t3,3 t1,-1", "ErrShape"},
		row{"f4.5 t1,1 t3,3 t1", "ErrShape"}, row{"f4.5 t1 t3 t1,0", "ErrShape"}, row{"f4.5 t1 t3 t", "ErrShape"}, row{"f4.5 t t t", "f4.5"}, row{"f4.5 t1 t3 -", "f2.5"})
	// With steps.
	table(t, api.OpSlice, plain,
		row{"f10 t0 t10 t0 t3", "f4"}, row{"f10 t1 t10 t0 t3", "f3"}, row{"f10 t0 t9 t0 t3", "f3"}, row{"f10 t0 t10 t0 t10", "f1"}, row{"f10 t0 t10 t0 t11", "f1"}, row{"f10 t0 t10 - t2", "f5"},
		row{"f10 t9 t0 t0 t-1", "f9"}, row{"f10 t9 t-11 t0 t-1", "f10"}, row{"f10 t9 t-1 t0 t-1", "f0"}, row{"f10 t99 t-99 t0 t-1", "f10"}, row{"f10 t9 t0 t0 t-3", "f3"}, row{"f10 t9 t0 t0 t-9", "f1"},
		row{"f10 t0 t9 t0 t-1", "f0"}, row{"f10 t0 t-11 t0 t-1", "f1"}, row{"f10 t-10 t-11 t0 t-1", "f1"}, row{"f10 t-11 t-12 t0 t-1", "f0"}, row{"f10 t99 t9 t0 t-1", "f0"}, row{"f10 t99 t8 t0 t-1", "f1"},
		row{"f0 t5 t-5 t0 t-1", "f0"}, row{"f0 t-1 t-2 t0 t-1", "f0"}, row{"f1 t0 t-2 t0 t-5", "f1"},
		row{"f10 t0 t10 t0 t0", "ErrShape"}, row{"f4.5 t0,0 t1,1 t0,1 t1,0", "ErrShape"}, row{"f4.5 t0,0 t9,9 - t2,1", "f2.5"}, row{"f4.5 t0,0 t9,9 - t2", "ErrShape"}, row{"f4.5 t0 t9 - t2,2", "ErrShape"},
		row{"f4.5 t t t t", "f4.5"}, row{"f4.5 t t - t0", "ErrShape"})
	// Numbers may be as great as they are, and do not come round.
	const most, least = "9223372036854775807", "-9223372036854775808"
	table(t, api.OpSlice, plain,
		row{"f10 t" + least + " t" + most, "f10"}, row{"f10 t" + most + " t" + least, "f0"}, row{"f10 t0 t" + most + " t0 t" + most, "f1"}, row{"f10 t1 t" + most + " t0 t4", "f3"},
		row{"f10 t" + most + " t" + least + " t0 t-4", "f3"}, row{"f10 t" + most + " t" + least + " t0 t" + least, "f1"}, row{"f10 t" + least + " t" + least + " t0 t" + least, "f0"},
		row{"f10 t0 t" + least + " t0 t" + least, "f1"}, row{"f10 t4097 t-4097 t0 t-4097", "f1"}, row{"f10 t0 t4097 t0 t4097", "f1"},
		row{"f10 t0 t1 t" + most, "ErrShape"}, row{"f10 t0 t1 t" + least, "ErrShape"}, row{"f4096 t0 t" + most, "f4096"}, row{"f4096 t" + most + " t" + least + " t0 t-1", "f4096"})
	// A long list is refused by its axes.
	long := told(make([]int, 4096)...)
	gives(t, api.OpSlice, plain, []api.Val{val("f2"), long, long}, 1, "ErrShape")
	gives(t, api.OpSlice, plain, []api.Val{val("f2"), long, long, long}, 1, "ErrShape")
}

// P10.1: Gather and its kin.
func TestGather(t *testing.T) {
	axis := func(n int) api.Setting { return api.Setting{Axis: n} }
	table(t, api.OpGather, axis(0), row{"f2.3.4 i5", "f5.3.4"}, row{"f2.3 i", "f3"}, row{"i2 i5.6", "i5.6"}, row{"b2 i", "b"}, row{"f2.3 i0", "f0.3"}, row{"f0.3 i5", "f5.3"},
		row{"f2 f5", "ErrType"}, row{"f2 b5", "ErrType"}, row{"f i5", "ErrAttr"}, row{"f f5", "ErrType"}, row{"f2.4096.0 i4096", "f4096.4096.0"},
		row{"f64.2 i2048", "f2048.2"}, row{"f64.2 i2049", "ErrSize"}, row{"f1.1.1.1 i1.1.1.1.1", "f1.1.1.1.1.1.1.1"}, row{"f1.1.1.1 i1.1.1.1.1.1", "ErrSize"})
	table(t, api.OpGather, axis(1), row{"f2.3.4 i5.6", "f2.5.6.4"}, row{"f2.3 i", "f2"}, row{"f2 i", "ErrAttr"})
	table(t, api.OpGather, axis(-1), row{"f2.3.4 i5", "f2.3.5"}, row{"f2 i7", "f7"}, row{"f i7", "ErrAttr"})
	table(t, api.OpGather, axis(-3), row{"f2.3.4 i5", "f5.3.4"}, row{"f2.3 i7", "ErrAttr"})
	table(t, api.OpGatherElements, axis(0), row{"f2.3 i5.3", "f5.3"}, row{"b2.3 i5.1", "b5.1"}, row{"i2.3 i0.0", "i0.0"}, row{"f2.3 i1.4", "ErrShape"}, row{"f2.3 i5", "ErrShape"}, row{"f2.3 i1.1.1", "ErrShape"},
		row{"f i", "ErrAttr"}, row{"f2 f2", "ErrType"}, row{"f2 i4096", "f4096"}, row{"f2.3.4 i9.3.4", "f9.3.4"}, row{"f2.3.4 i9.4.4", "ErrShape"}, row{"f2.3.4 i9.3.5", "ErrShape"})
	table(t, api.OpGatherElements, axis(1), row{"f2.3 i2.9", "f2.9"}, row{"f2.3 i1.9", "f1.9"}, row{"f2.3 i3.3", "ErrShape"}, row{"f2 i2", "ErrAttr"})
	table(t, api.OpGatherElements, axis(-1), row{"f2.3 i2.9", "f2.9"}, row{"f2.3 i3.1", "ErrShape"})
	for _, op := range []int{api.OpGather, api.OpGatherElements} {
		for _, n := range []int{2, -3, math.MaxInt, math.MinInt} {
			says(t, op, axis(n), "f2.3 i2.3", "ErrAttr")
		}
	}
}

// P10.1: ScatterElements, of all modes.
func TestScatter(t *testing.T) {
	axis := func(n int) api.Setting { return api.Setting{Axis: n} }
	table(t, api.OpScatterElements, axis(0), row{"f2.3 i5.3 f5.3", "f2.3"}, row{"i2.3 i5.1 i5.1", "i2.3"}, row{"b2.3 i1.1 b1.1", "b2.3"}, row{"f2 i0 f0", "f2"}, row{"f2.3 i5.3 f5.2", "ErrShape"},
		row{"f2.3 i5.4 f5.4", "ErrShape"}, row{"f2.3 i5 f5", "ErrShape"}, row{"f2.3 i5.3 f5", "ErrShape"}, row{"f2.3 i5.3 i5.3", "ErrType"}, row{"f2.3 f5.3 f5.3", "ErrType"}, row{"f i f", "ErrAttr"}, row{"f2.3 i2.3 f2.3.1", "ErrShape"})
	table(t, api.OpScatterElements, axis(-1), row{"f2.3 i2.9 f2.9", "f2.3"}, row{"f2.3 i3.9 f3.9", "ErrShape"})
	table(t, api.OpScatterElements, axis(2), row{"f2.3 i2.9 f2.9", "ErrAttr"}, row{"f2.3.1 i2.3.9 f2.3.9", "f2.3.1"})
	for _, mode := range []int{api.ModeAdd, api.ModeMul, api.ModeReflect, -1, 11, 1 << 40} {
		s := api.Setting{Mode: mode}
		table(t, api.OpScatterElements, s, row{"f2 i9 f9", "f2"}, row{"i2 i9 i9", "i2"}, row{"b2 i9 b9", "ErrType"})
	}
}

// P10.1: Pad, of all modes.
func TestPad(t *testing.T) {
	mode := func(n int) api.Setting { return api.Setting{Mode: n} }
	for _, n := range []int{api.ModeConstant, api.ModeNone, api.ModeAdd, -5, 99} {
		table(t, api.OpPad, mode(n), row{"f3 t2,4", "f9"}, row{"i2.3 t1,0,2,5", "i5.8"}, row{"f2.3 t1,2,0,0", "f3.5"}, row{"f2.3 t0,0,1,2", "f3.5"}, row{"b t", "b"}, row{"f0 t1,1", "f2"},
			row{"f3 t0,0 f", "f3"}, row{"f3 t0,0 -", "f3"}, row{"f3 t0,0 f1", "ErrShape"}, row{"f3 t0,0 i", "ErrType"}, row{"b3 t0,0 b", "b3"}, row{"f3 t-1,0", "ErrShape"}, row{"f3 t0,-1", "ErrShape"},
			row{"f3 t1", "ErrShape"}, row{"f3 t1,1,1", "ErrShape"}, row{"f3 t", "ErrShape"}, row{"f t0", "ErrShape"}, row{"f3 t4093,0", "f4096"}, row{"f3 t4093,1", "ErrSize"}, row{"f3 t0,4097", "ErrSize"},
			row{"f3 t4096,4096", "ErrSize"}, row{"f64.63 t0,0,0,1", "f64.64"}, row{"f64.63 t0,0,1,1", "ErrSize"}, row{"f3 t9,9", "f21"})
	}
	table(t, api.OpPad, mode(api.ModeReflect), row{"f3 t2,2", "f7"}, row{"f3 t3,0", "ErrShape"}, row{"f3 t0,3", "ErrShape"}, row{"f3 t2,0", "f5"}, row{"f1 t0,0", "f1"}, row{"f1 t1,0", "ErrShape"}, row{"f0 t0,0", "f0"},
		row{"f0 t0,1", "ErrShape"}, row{"f0 t1,0", "ErrShape"}, row{"f3.2 t0,1,2,0", "f5.3"}, row{"f3.2 t0,2,2,0", "ErrShape"}, row{"f3.0 t1,0,1,0", "f5.0"}, row{"f", "ErrArg"}, row{"f t", "f"})
	table(t, api.OpPad, mode(api.ModeEdge), row{"f3 t9,9", "f21"}, row{"f0 t0,0", "f0"}, row{"f0 t1,0", "ErrShape"}, row{"f0 t0,1", "ErrShape"}, row{"f1 t5,0", "f6"}, row{"f3.0 t1,0,1,0", "f5.0"}, row{"f3.0 t1,0,1,1", "ErrShape"}, row{"f3 t-1,0", "ErrShape"})
}

// P10.1: Tile and Expand.
func TestTileExpand(t *testing.T) {
	table(t, api.OpTile, plain, row{"f2.3 t2,3", "f4.9"}, row{"i2.3 t1,1", "i2.3"}, row{"b2.3 t0,1", "b0.3"}, row{"f t", "f"}, row{"f2 t2,2", "ErrShape"}, row{"f2.3 t2", "ErrShape"}, row{"f2 t", "ErrShape"}, row{"f t1", "ErrShape"},
		row{"f2 t-1", "ErrShape"}, row{"f2.3 t-1,-1", "ErrShape"}, row{"f2 t2048", "f4096"}, row{"f2 t2049", "ErrSize"}, row{"f4096 t4096", "ErrSize"}, row{"f4096 t4097", "ErrSize"}, row{"f0 t4096", "f0"}, row{"f0.2 t1,4096", "ErrSize"})
	table(t, api.OpExpand, plain, row{"f3.1 t2,1,4", "f2.3.4"}, row{"i3 t3", "i3"}, row{"i3 t1", "i3"}, row{"i3 t", "i3"}, row{"b t2,2", "b2.2"}, row{"f1 t0", "f0"}, row{"f0 t1", "f0"}, row{"f2 t3", "ErrShape"}, row{"f3 t0", "ErrShape"},
		row{"f3 t-1", "ErrShape"}, row{"f3 t3,-1", "ErrShape"}, row{"f1 t4096", "f4096"}, row{"f1 t4097", "ErrSize"}, row{"f1 t4096,2", "ErrSize"}, row{"f2 t4096,1", "ErrSize"}, row{"f3 t4096,2", "ErrSize"},
		row{"f2 t1,1,1,1,1,1,1,1", "f1.1.1.1.1.1.1.2"}, row{"f2 t1,1,1,1,1,1,1,1,1", "ErrSize"}, row{"f3 t1,1,1,1,1,1,1,1,2", "ErrSize"}, row{"f3 t1,1,1,1,1,1,1,1,-2", "ErrShape"}, row{"f3 t4096,4096,-1", "ErrShape"})
}

// P10.1: Squeeze and Unsqueeze.
func TestOnes(t *testing.T) {
	table(t, api.OpSqueeze, plain, row{"f1.2.1.3", "f2.3"}, row{"i2.3", "i2.3"}, row{"b1.1", "b"}, row{"f", "f"}, row{"f1.0.1", "f0"}, row{"f1.2.1.3 -", "f2.3"},
		row{"f1.2.1.3 t0", "f2.1.3"}, row{"f1.2.1.3 t2", "f1.2.3"}, row{"f1.2.1.3 t-2", "f1.2.3"}, row{"f1.2.1.3 t2,0", "f2.3"}, row{"f1.2.1.3 t0,-2", "f2.3"}, row{"f1.2.1.3 t", "f1.2.1.3"}, row{"f t", "f"},
		row{"f1.2.1.3 t1", "ErrShape"}, row{"f1.2.1.3 t-1", "ErrShape"}, row{"f1.2.1.3 t4", "ErrShape"}, row{"f1.2.1.3 t-5", "ErrShape"}, row{"f1.2.1.3 t0,0", "ErrShape"}, row{"f1.2.1.3 t0,-4", "ErrShape"}, row{"f t0", "ErrShape"},
		row{"f0 t0", "ErrShape"}, row{"f1 t4097", "ErrSize"}, row{"f1.2 t0,1", "ErrShape"})
	table(t, api.OpUnsqueeze, plain, row{"f2.3 t0", "f1.2.3"}, row{"i2.3 t1", "i2.1.3"}, row{"b2.3 t2", "b2.3.1"}, row{"f2.3 t-1", "f2.3.1"}, row{"f2.3 t-3", "f1.2.3"}, row{"f2.3 t0,3", "f1.2.3.1"}, row{"f2.3 t3,0", "f1.2.3.1"},
		row{"f2.3 t", "f2.3"}, row{"f t0,1", "f1.1"}, row{"f t", "f"}, row{"f0 t0", "f1.0"}, row{"f2.3 t3", "ErrShape"}, row{"f2.3 t-4", "ErrShape"}, row{"f2.3 t0,0", "ErrShape"}, row{"f2.3 t0,-4", "ErrShape"}, row{"f2.3 t0,4", "ErrShape"},
		row{"f t0,1,2,3,4,5,6,7", "f1.1.1.1.1.1.1.1"}, row{"f t0,1,2,3,4,5,6,7,8", "ErrSize"}, row{"f2 t0,0,0,0,0,0,0,0", "ErrSize"}, row{"f2 t0,0,0,0,0,0,0", "ErrShape"}, row{"f1.1.1.1.1.1.1.1 t0", "ErrSize"}, row{"f1.1.1.1.1.1.1.1 t", "f1.1.1.1.1.1.1.1"},
		row{"f2 t4097", "ErrSize"}, row{"f2 t4096", "ErrShape"})
	gives(t, api.OpUnsqueeze, plain, []api.Val{val("f2"), told(make([]int, 4096)...)}, 1, "ErrSize")
	gives(t, api.OpSqueeze, plain, []api.Val{val("f1"), told(make([]int, 4096)...)}, 1, "ErrShape")
}

// P10.1: Flatten.
func TestFlatten(t *testing.T) {
	axis := func(n int) api.Setting { return api.Setting{Axis: n} }
	table(t, api.OpFlatten, axis(1), row{"f2.3.4", "f2.12"}, row{"i5", "i5.1"}, row{"b", "ErrAttr"}, row{"f0.3", "f0.3"}, row{"f3.0.5", "f3.0"})
	table(t, api.OpFlatten, axis(0), row{"f2.3.4", "f1.24"}, row{"f", "f1.1"}, row{"f4096", "f1.4096"}, row{"f0.4096.4096", "f1.0"})
	table(t, api.OpFlatten, axis(-1), row{"f2.3.4", "f6.4"}, row{"f5", "f1.5"}, row{"f", "ErrAttr"}, row{"f4096.4096.0", "ErrSize"}, row{"f64.65.0", "ErrSize"}, row{"f64.64.0", "f4096.0"})
	table(t, api.OpFlatten, axis(2), row{"f2.3", "f6.1"}, row{"f2.3.4", "f6.4"}, row{"f2", "ErrAttr"}, row{"f4096.2.0", "ErrSize"}, row{"f4096.0.4096.4096", "ErrSize"}, row{"f0.4096.4096", "f0.4096"})
	table(t, api.OpFlatten, axis(-3), row{"f2.3.4", "f1.24"}, row{"f2.3", "ErrAttr"}, row{"f5.2.3.4", "f5.24"})
	table(t, api.OpFlatten, axis(8), row{"f1.1.1.1.1.1.1.2", "f2.1"}, row{"f2.3", "ErrAttr"}, row{"f1.1.1.1.1.1.2", "ErrAttr"})
	table(t, api.OpFlatten, axis(7), row{"f4096.4096.4096.4096.4096.4096.4096.0", "ErrSize"})
	for _, n := range []int{3, -4, math.MaxInt, math.MinInt} {
		says(t, api.OpFlatten, axis(n), "f2.2.2", map[bool]string{true: "f8.1", false: "ErrAttr"}[n == 3])
	}
}

// P10.1: Shape tells dims from a start to an end.
func TestShape(t *testing.T) {
	from := func(start int) api.Setting { return api.Setting{Start: start} }
	to := func(start, end int) api.Setting { return api.Setting{Start: start, End: end, HasEnd: true} }
	for _, x := range []struct {
		s    api.Setting
		want string
	}{
		{plain, "i4"}, {from(1), "i3"}, {from(4), "i0"}, {from(9), "i0"}, {from(-1), "i1"}, {from(-4), "i4"}, {from(-9), "i4"}, {from(math.MinInt), "i4"}, {from(math.MaxInt), "i0"},
		{to(0, 4), "i4"}, {to(0, 0), "i0"}, {to(1, 3), "i2"}, {to(3, 1), "i0"}, {to(-3, -1), "i2"}, {to(-1, -3), "i0"}, {to(0, 99), "i4"}, {to(-99, 99), "i4"}, {to(2, -99), "i0"}, {to(99, 99), "i0"},
		{to(0, math.MaxInt), "i4"}, {to(math.MinInt, math.MinInt), "i0"}, {to(math.MinInt, math.MaxInt), "i4"}, {to(math.MaxInt, math.MinInt), "i0"}, {api.Setting{End: 2}, "i4"}, {api.Setting{Start: 1, End: -2}, "i3"},
	} {
		says(t, api.OpShape, x.s, "f5.6.7.8", x.want)
		says(t, api.OpShape, x.s, "b0.0.0.0", x.want)
		says(t, api.OpShape, x.s, "i", "i0")
	}
	table(t, api.OpSize, plain, row{"f2.3", "i"}, row{"i", "i"}, row{"b0", "i"})
}

// P10.1: ConstantOfShape.
func TestConstantOfShape(t *testing.T) {
	of := func(v api.Tensor) api.Setting { return api.Setting{Value: v} }
	table(t, api.OpConstantOfShape, of(zeros(api.Float, 1)), row{"t2,3", "f2.3"}, row{"t", "f"}, row{"t0,4096", "f0.4096"}, row{"t4096", "f4096"}, row{"t4097", "ErrSize"}, row{"t-1", "ErrShape"}, row{"t2,-1", "ErrShape"},
		row{"t64,65", "ErrSize"}, row{"t1,1,1,1,1,1,1,1", "f1.1.1.1.1.1.1.1"}, row{"t1,1,1,1,1,1,1,1,1", "ErrSize"}, row{"t1,1,1,1,1,1,1,1,-1", "ErrShape"}, row{"t4096,4096,-1", "ErrShape"}, row{"f2", "ErrType"}, row{"b2", "ErrType"}, row{"i2", "ErrConst"})
	says(t, api.OpConstantOfShape, of(zeros(api.Int, 1)), "t2,3", "i2.3")
	says(t, api.OpConstantOfShape, of(zeros(api.Bool)), "t2,3", "b2.3")
	says(t, api.OpConstantOfShape, of(zeros(api.Int, 1, 1, 1)), "t2,3", "i2.3")
	two := zeros(api.Int, 1)
	two.F = []uint32{1}
	for _, v := range []api.Tensor{{}, zeros(api.Float, 2), zeros(api.Float, 0), zeros(3, 1), {Type: api.Float, Dims: []int{1}}, {Type: api.Float, F: []uint32{1, 2}}, {Type: api.Int, F: []uint32{1}}, two,
		{Type: api.Float, Dims: []int{-1}, F: []uint32{1}}, {Type: api.Float, Dims: []int{1, 1, 1, 1, 1, 1, 1, 1, 1}, F: []uint32{1}}, {F: []uint32{1}}, {Type: api.Int, Dims: []int{4096, 4096}, I: []int64{1}}} {
		says(t, api.OpConstantOfShape, of(v), "t2,3", "ErrAttr")
		says(t, api.OpConstantOfShape, of(v), "i2", "ErrAttr")
		says(t, api.OpConstantOfShape, of(v), "f2", "ErrType")
	}
}

// P10.1: DepthToSpace and SpaceToDepth.
func TestBlocks(t *testing.T) {
	block := func(n int) api.Setting { return api.Setting{Block: n} }
	for _, mode := range []int{api.ModeDCR, api.ModeCRD, 0, -1, 99} {
		s := block(2)
		s.Mode = mode
		table(t, api.OpDepthToSpace, s, row{"f3.8.5.7", "f3.2.10.14"}, row{"i3.4.0.7", "i3.1.0.14"}, row{"b0.0.0.0", "b0.0.0.0"}, row{"f3.6.5.7", "ErrShape"}, row{"f3.2.5.7", "ErrShape"}, row{"f3.1.5.7", "ErrShape"},
			row{"f4.5.7", "ErrShape"}, row{"f1.4.5.7.1", "ErrShape"}, row{"f", "ErrShape"}, row{"f1.0.4096.1", "ErrSize"}, row{"f1.0.2048.2048", "f1.0.4096.4096"})
	}
	table(t, api.OpSpaceToDepth, block(2), row{"f3.2.10.14", "f3.8.5.7"}, row{"i3.1.0.14", "i3.4.0.7"}, row{"b1.1.3.2", "ErrShape"}, row{"b1.1.2.3", "ErrShape"}, row{"f2.2.2", "ErrShape"}, row{"f1.2.2.2.2", "ErrShape"},
		row{"f1.1025.0.0", "ErrSize"}, row{"f1.1024.0.0", "f1.4096.0.0"})
	table(t, api.OpDepthToSpace, block(1), row{"f3.8.5.7", "f3.8.5.7"})
	table(t, api.OpDepthToSpace, block(4096), row{"f3.0.0.1", "f3.0.0.4096"}, row{"f0.4096.1.1", "ErrShape"}, row{"f3.0.0.2", "ErrSize"})
	table(t, api.OpDepthToSpace, block(64), row{"f1.4096.1.1", "f1.1.64.64"}, row{"f1.64.1.1", "ErrShape"}, row{"f1.2048.1.1", "ErrShape"})
	table(t, api.OpSpaceToDepth, block(64), row{"f1.1.64.64", "f1.4096.1.1"})
	table(t, api.OpSpaceToDepth, block(4096), row{"f0.1.0.4096", "ErrSize"}, row{"f1.0.0.4096", "f1.0.0.1"}, row{"f1.0.4096.4095", "ErrShape"}, row{"f1.4096.0.0", "ErrSize"})
	for _, n := range []int{0, -1, -2, 4097, math.MaxInt, math.MinInt, 1 << 32} {
		for _, op := range []int{api.OpDepthToSpace, api.OpSpaceToDepth} {
			says(t, op, block(n), "f3.8.4.4", "ErrAttr")
			says(t, op, block(n), "f3", "ErrAttr")
		}
	}
}
