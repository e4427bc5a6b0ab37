package ops_test

import (
	"fmt"
	"math"
	"slices"
	"strings"
	"testing"

	"lattice/api"
	"lattice/ops"
)

// P8.1: each line of the table.
func TestRows(t *testing.T) {
	rows := wantRows()
	if len(rows) != 80 || api.Ops != 80 {
		t.Fatalf("%d lines", len(rows))
	}
	for i, r := range rows {
		if r.op != i+1 {
			t.Fatalf("line %d is that of %d", i, r.op)
		}
		if got := ops.Number(r.name); got != r.op {
			t.Errorf("Number of %s: %d, want %d", r.name, got, r.op)
		}
		if got := ops.Name(r.op); got != r.name {
			t.Errorf("Name of %d: %q, want %q", r.op, got, r.name)
		}
		a, b, c, d := ops.Arity(r.op)
		if a != r.leastIn || b != r.mostIn || c != r.leastOut || d != r.mostOut {
			t.Errorf("Arity of %s: %d %d %d %d, want %d %d %d %d", r.name, a, b, c, d, r.leastIn, r.mostIn, r.leastOut, r.mostOut)
		}
		var want []string
		for _, w := range r.attrs {
			want = append(want, w.name)
		}
		if got := ops.Attrs(r.op); !slices.Equal(got, want) {
			t.Errorf("Attrs of %s: %q, want %q", r.name, got, want)
		}
	}
}

// P8.1: the constants of api name the same operators.
func TestConstants(t *testing.T) {
	for op, name := range map[int]string{api.OpAbs: "Abs", api.OpRelu: "Relu", api.OpIsInf: "IsInf", api.OpClip: "Clip", api.OpCast: "Cast", api.OpTranspose: "Transpose", api.OpConstant: "Constant",
		api.OpSpaceToDepth: "SpaceToDepth", api.OpReduceSum: "ReduceSum", api.OpSoftmax: "Softmax", api.OpGemm: "Gemm", api.OpConv: "Conv", api.OpLayerNormalization: "LayerNormalization"} {
		if ops.Name(op) != name || ops.Number(name) != op {
			t.Errorf("%s: %d, %q", name, ops.Number(name), ops.Name(op))
		}
	}
}

// P8.1: names that are none.
func TestNamesOfNone(t *testing.T) {
	list := []string{"", " ", "conv", "CONV", "Conv ", " Conv", "Con", "Convo", "Foo", "None", "OpConv", "Conv\x00", "ai.onnx.Conv", "75", "\xff", strings.Repeat("Add", 100000)}
	for _, r := range wantRows() {
		list = append(list, strings.ToLower(r.name), strings.ToUpper(r.name), r.name+"s", r.name[1:], r.name[:len(r.name)-1])
	}
	for _, name := range list {
		if wantRowOf(name) != nil {
			continue
		}
		if got := ops.Number(name); got != 0 {
			t.Errorf("Number of %q: %d", short(name), got)
		}
		checkErr(t, node(name, 1, 1), api.ErrUnsupported)
	}
}

// P8.1: numbers that are none.
func TestNumbersOfNone(t *testing.T) {
	for _, op := range []int{0, -1, -2, -75, -80, 81, 82, 100, 160, 255, 256, 257, 1 << 32, 1<<32 + 1, math.MaxInt, math.MinInt, math.MinInt + 75} {
		if got := ops.Name(op); got != "" {
			t.Errorf("Name of %d: %q", op, got)
		}
		if a, b, c, d := ops.Arity(op); a != 0 || b != 0 || c != 0 || d != 0 {
			t.Errorf("Arity of %d: %d %d %d %d", op, a, b, c, d)
		}
		if got := ops.Attrs(op); len(got) != 0 {
			t.Errorf("Attrs of %d: %q", op, got)
		}
	}
}

// P8.2: what stands where all is left out that may be.
func TestStanding(t *testing.T) {
	for _, r := range wantRows() {
		n := with(r)
		checkAsWanted(t, n)
		if _, _, err := ops.Resolve(n); err != api.OK {
			t.Errorf("%s with all that it needs: %v", r.name, err)
		}
	}
	check(t, node("Softmax", 1, 1), 72, api.Setting{Axis: -1}, api.OK)
	check(t, node("LayerNormalization", 3, 1), 80, api.Setting{Axis: -1, Epsilon: 0x3727c5ac}, api.OK)
	check(t, node("IsInf", 1, 1), 27, api.Setting{Low: true, High: true}, api.OK)
	check(t, node("Flatten", 1, 1), 58, api.Setting{Axis: 1}, api.OK)
	check(t, node("Pad", 2, 1), 53, api.Setting{Mode: api.ModeConstant}, api.OK)
	check(t, node("Conv", 2, 1), 75, api.Setting{Group: 1}, api.OK)
	check(t, node("DepthToSpace", 1, 1, number("blocksize", 3)), 63, api.Setting{Block: 3, Mode: api.ModeDCR}, api.OK)
	check(t, node("ConstantOfShape", 1, 1), 62, api.Setting{Value: api.Tensor{Type: api.Float, Dims: []int{1}, F: []uint32{0}}}, api.OK)
}

// P8.2: one that must be there and is not; no other attribute stands for it.
func TestMustBeThere(t *testing.T) {
	some := 0
	for _, r := range wantRows() {
		for _, w := range r.attrs {
			n := with(r)
			n.Attrs = slices.DeleteFunc(n.Attrs, func(a api.Attr) bool { return a.Name == w.name })
			if !w.must {
				continue
			}
			some++
			checkErr(t, n, api.ErrAttr)
			for _, other := range r.attrs {
				if other.name == w.name {
					continue
				}
				for _, a := range fits(r.name, other) {
					more := n
					more.Attrs = append(slices.Clone(n.Attrs), a)
					checkErr(t, more, api.ErrAttr)
				}
			}
		}
	}
	if some != 6 {
		t.Error(fmt.Sprint(some, " that must be there"))
	}
}
