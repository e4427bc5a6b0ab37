package infer_test

import (
	"math"
	"testing"

	"lattice/api"
)

// P10.1: ReduceSum, whose axes are told.
func TestReduceSum(t *testing.T) {
	table(t, api.OpReduceSum, api.Setting{Keep: true}, row{"f2.3 t0", "f1.3"}, row{"f2.3 t-1", "f2.1"}, row{"i2.3.4 t2,0", "i1.3.1"}, row{"f2.3", "f1.1"}, row{"f2.3 -", "f1.1"}, row{"f2.3 t", "f1.1"}, row{"f", "f"}, row{"f t", "f"}, row{"f0.3 t0", "f1.3"},
		row{"f0.3", "f1.1"}, row{"f0.3 t1", "f0.1"})
	table(t, api.OpReduceSum, plain, row{"f2.3 t0", "f3"}, row{"f2.3 t-1", "f2"}, row{"i2.3.4 t2,0", "i3"}, row{"f2.3", "f"}, row{"f2.3 -", "f"}, row{"f2.3 t", "f"}, row{"f", "f"}, row{"f0.3 t0", "f3"}, row{"f0", "f"}, row{"f4096.0.4096 t1", "ErrSize"},
		row{"b2", "ErrType"}, row{"b2 t0", "ErrType"}, row{"f2 f0", "ErrType"}, row{"f2 i1", "ErrConst"}, row{"f2.3 t2", "ErrShape"}, row{"f2.3 t-3", "ErrShape"}, row{"f2.3 t0,0", "ErrShape"}, row{"f2.3 t0,-2", "ErrShape"}, row{"f t0", "ErrShape"}, row{"f2 t4097", "ErrSize"})
	noop := api.Setting{Noop: true}
	table(t, api.OpReduceSum, noop, row{"f2.3", "f2.3"}, row{"f2.3 -", "f2.3"}, row{"i2.3 t", "i2.3"}, row{"f2.3 t0", "f3"}, row{"f", "f"}, row{"f0.1", "f0.1"}, row{"f2.3 t2", "ErrShape"})
	noop.Keep = true
	table(t, api.OpReduceSum, noop, row{"f2.3", "f2.3"}, row{"f2.3 t", "f2.3"}, row{"f2.3 t0", "f1.3"})
	// The setting's own axes are not asked.
	table(t, api.OpReduceSum, api.Setting{Axes: []int{0}, HasAxes: true}, row{"f2.3", "f"}, row{"f2.3 t1", "f2"})
	table(t, api.OpReduceSum, api.Setting{Axes: []int{9, 9}}, row{"f2.3", "f"}, row{"f2.3 t1", "f2"})
}

// P10.1: the other reductions, whose axes the setting says, with the flag and without.
func TestReductions(t *testing.T) {
	for _, op := range []int{api.OpReduceMean, api.OpReduceMax, api.OpReduceMin, api.OpReduceProd} {
		for _, has := range []bool{true, false} {
			with := func(keep bool, axes ...int) api.Setting {
				return api.Setting{Keep: keep, Axes: axes, HasAxes: has, Noop: true}
			}
			table(t, op, with(false), row{"f2.3", "f"}, row{"f", "f"})
			table(t, op, with(true), row{"f2.3", "f1.1"}, row{"f", "f"})
			table(t, op, with(false, 0), row{"f2.3", "f3"}, row{"f5", "f"}, row{"f", "ErrAttr"})
			table(t, op, with(true, 0), row{"f2.3", "f1.3"}, row{"f5", "f1"}, row{"b5", "ErrType"})
			table(t, op, with(false, -1, 0), row{"f2.3.4", "f3"}, row{"f2.3", "f"}, row{"f5", "ErrAttr"})
			table(t, op, with(true, 2, 1), row{"f2.3.4", "f2.1.1"}, row{"f2.3", "ErrAttr"})
			for _, axes := range [][]int{{2}, {-3}, {0, 0}, {1, -1}, {0, 1, 2}, {math.MaxInt}, {math.MinInt}, make([]int, 100000)} {
				says(t, op, with(false, axes...), "f2.3", "ErrAttr")
				says(t, op, with(false, axes...), "f0.3", "ErrAttr")
			}
			// None of no elements, but a product.
			want := []row{{"f0.3", "ErrShape"}, {"f3.0", "f0"}, {"f0.0", "ErrShape"}}
			all := []row{{"f0.3", "ErrShape"}, {"f3.0", "ErrShape"}, {"f0", "ErrShape"}}
			if op == api.OpReduceProd {
				want = []row{{"f0.3", "f3"}, {"f3.0", "f0"}, {"f0.0", "f0"}}
				all = []row{{"f0.3", "f"}, {"f3.0", "f"}, {"f0", "f"}}
			}
			table(t, op, with(false, 0), want...)
			table(t, op, with(false), all...)
		}
		kind := map[bool]string{true: "ErrType", false: "i3"}[op == api.OpReduceMean]
		says(t, op, api.Setting{Axes: []int{0}}, "i2.3", kind)
		says(t, op, api.Setting{Axes: []int{0}}, "b2.3", "ErrType")
	}
	says(t, api.OpReduceProd, api.Setting{Axes: []int{1}}, "f4096.0.4096", "ErrSize")
}

// P10.1: ArgMax and ArgMin.
func TestArg(t *testing.T) {
	for _, op := range []int{api.OpArgMax, api.OpArgMin} {
		with := func(axis int, keep bool) api.Setting { return api.Setting{Axis: axis, Keep: keep} }
		table(t, op, with(0, false), row{"f2.3", "i3"}, row{"i2.3", "i3"}, row{"b2.3", "ErrType"}, row{"f5", "i"}, row{"f", "ErrAttr"}, row{"f0.3", "ErrShape"}, row{"f3.0", "i0"}, row{"f0", "ErrShape"}, row{"b", "ErrType"})
		table(t, op, with(1, true), row{"f2.3", "i2.1"}, row{"f2.3.4", "i2.1.4"}, row{"f5", "ErrAttr"}, row{"f3.0", "ErrShape"}, row{"f0.3", "i0.1"})
		table(t, op, with(-1, false), row{"f2.3", "i2"}, row{"f2.3.4", "i2.3"}, row{"f5", "i"})
		table(t, op, with(-1, true), row{"f2.3", "i2.1"}, row{"f5", "i1"})
		table(t, op, with(-2, true), row{"f2.3", "i1.3"}, row{"f5", "ErrAttr"})
		for _, axis := range []int{2, -3, math.MaxInt, math.MinInt} {
			says(t, op, with(axis, false), "f2.3", "ErrAttr")
			says(t, op, with(axis, true), "f0.0", "ErrAttr")
		}
		says(t, op, with(1, false), "f4096.1.4096.0", "i4096.4096.0")
	}
}

// P10.1: Softmax.
func TestSoftmax(t *testing.T) {
	for axis, want := range map[int]string{0: "f2.3", 1: "f2.3", -1: "f2.3", -2: "f2.3", 2: "ErrAttr", -3: "ErrAttr", math.MaxInt: "ErrAttr", math.MinInt: "ErrAttr"} {
		says(t, api.OpSoftmax, api.Setting{Axis: axis}, "f2.3", want)
		says(t, api.OpSoftmax, api.Setting{Axis: axis}, "i2.3", "ErrType")
	}
	table(t, api.OpSoftmax, plain, row{"f", "ErrAttr"}, row{"f0", "f0"}, row{"f4096", "f4096"}, row{"b1", "ErrType"})
}

// P10.1: norms, and the average of all.
func TestNorms(t *testing.T) {
	table(t, api.OpGlobalAveragePool, plain, row{"f2.3.4.5", "f2.3.1.1"}, row{"f2.3.4", "f2.3.1"}, row{"f2.3.4.5.6", "f2.3.1.1.1"}, row{"f1.1.1.1.1.1.1.2", "f1.1.1.1.1.1.1.1"}, row{"f2.3", "ErrShape"}, row{"f2", "ErrShape"}, row{"f", "ErrShape"},
		row{"f0.3.4", "f0.3.1"}, row{"f2.0.4", "f2.0.1"}, row{"f2.3.0", "ErrShape"}, row{"f2.3.4.0", "ErrShape"}, row{"f2.3.0.5", "ErrShape"}, row{"i2.3.4", "ErrType"}, row{"b2.3.4", "ErrType"})
	table(t, api.OpBatchNormalization, plain, row{"f2.3.4 f3 f3 f3 f3", "f2.3.4"}, row{"f2.3 f3 f3 f3 f3", "f2.3"}, row{"f2.0 f0 f0 f0 f0", "f2.0"}, row{"f3 f3 f3 f3 f3", "ErrShape"}, row{"f f f f f", "ErrShape"}, row{"f2.3 f2 f3 f3 f3", "ErrShape"},
		row{"f2.3 f3 f2 f3 f3", "ErrShape"}, row{"f2.3 f3 f3 f2 f3", "ErrShape"}, row{"f2.3 f3 f3 f3 f2", "ErrShape"}, row{"f2.3 f1 f3 f3 f3", "ErrShape"}, row{"f2.3 f3 f3.1 f3 f3", "ErrShape"}, row{"f2.3 f3 f3 f f3", "ErrShape"},
		row{"i2.3 f3 f3 f3 f3", "ErrType"}, row{"f2.3 i3 f3 f3 f3", "ErrType"}, row{"f2.3 f3 i3 f3 f3", "ErrType"}, row{"f2.3 f3 f3 i3 f3", "ErrType"}, row{"f2.3 f3 f3 f3 b3", "ErrType"}, row{"f2.3 f3 f3 f3 -", "ErrArg"}, row{"f2.3 f3 f3 f3", "ErrArg"})
	layer := func(axis int) api.Setting { return api.Setting{Axis: axis} }
	table(t, api.OpLayerNormalization, layer(-1), row{"f2.3 f3", "f2.3"}, row{"f2.3 f3 f3", "f2.3"}, row{"f2.3 f3 -", "f2.3"}, row{"f2.3 f2", "ErrShape"}, row{"f2.3 f1", "ErrShape"}, row{"f2.3 f", "ErrShape"}, row{"f2.3 f3.1", "ErrShape"}, row{"f2.3 f2.3", "ErrShape"},
		row{"f2.3 f3 f2", "ErrShape"}, row{"f2.3 f3 f", "ErrShape"}, row{"f2.0 f0", "ErrShape"}, row{"f0.3 f3 f3", "f0.3"}, row{"f f", "ErrAttr"}, row{"f2.3 i3", "ErrType"}, row{"f2.3 f3 i3", "ErrType"}, row{"i2.3 f3", "ErrType"}, row{"f5 f5", "f5"})
	table(t, api.OpLayerNormalization, layer(1), row{"f2.3.4 f3.4", "f2.3.4"}, row{"f2.3.4 f3.4 f3.4", "f2.3.4"}, row{"f2.3.4 f4", "ErrShape"}, row{"f2.3.0 f3.0", "ErrShape"}, row{"f2.0.4 f0.4", "ErrShape"}, row{"f5 f5", "ErrAttr"})
	table(t, api.OpLayerNormalization, layer(0), row{"f2.3.4 f2.3.4", "f2.3.4"}, row{"f0.3 f0.3", "ErrShape"}, row{"f2.3.4 f3.4", "ErrShape"})
	for _, axis := range []int{2, -3, math.MaxInt, math.MinInt} {
		says(t, api.OpLayerNormalization, layer(axis), "f2.3 f2.3", "ErrAttr")
	}
}
