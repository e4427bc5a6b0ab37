package moves_test

import (
	"slices"
	"testing"

	"lattice/api"
)

// P12.1: Concat along each axis, of one input, of many, of some without elements.
func TestConcat(t *testing.T) {
	two := "i2.2:1,2,3,4 i2.1:5,6"
	gives(t, api.OpConcat, along(1), two, "i2.3:1,2,5,3,4,6")
	gives(t, api.OpConcat, along(-1), two, "i2.3:1,2,5,3,4,6")
	gives(t, api.OpConcat, along(0), "i1.2:1,2 i2.2:3,4,5,6", "i3.2:1,2,3,4,5,6")
	gives(t, api.OpConcat, along(-2), "i1.2:1,2 i2.2:3,4,5,6", "i3.2:1,2,3,4,5,6")
	gives(t, api.OpConcat, along(1), "i2.1.2:1,2,3,4 i2.2.2:5,6,7,8,9,10,11,12", "i2.3.2:1,2,5,6,7,8,3,4,9,10,11,12")
	gives(t, api.OpConcat, along(0), "f:1", "f:00000001")
	gives(t, api.OpConcat, along(0), "b:1 b: b:0,1 b:", "b:1,0,1")
	gives(t, api.OpConcat, along(0), "b: b:", "b:")
	gives(t, api.OpConcat, along(1), "i2.0: i2.1:5,6 i2.0:", "i2.1:5,6")
	gives(t, api.OpConcat, along(1), "i0.2: i0.3:", "i0.5:")
	gives(t, api.OpConcat, along(2), "f4096.4096.0: f4096.4096.0:", "f4096.4096.0:")
	gives(t, api.OpConcat, along(0), two, "ErrShape")
	gives(t, api.OpConcat, along(2), two, "ErrAttr")
	gives(t, api.OpConcat, along(0), "i:1 b:1", "ErrType")
	gives(t, api.OpConcat, along(0), "i:1 -", "ErrType")
	gives(t, api.OpConcat, along(0), "i.:1 i.:2", "ErrAttr")
	many := slices.Repeat(tensors("i:7"), api.MaxIn)
	answers(t, api.OpConcat, along(0), many, 1, wordOf(ints(slices.Repeat([]int{7}, api.MaxIn)...)))
	answers(t, api.OpConcat, along(0), append(many, many[0]), 1, "ErrArg")
	half := counted(64, 32)
	answers(t, api.OpConcat, along(0), []api.Tensor{half, half}, 1, wordOf(api.Tensor{Type: api.Int, Dims: []int{128, 32}, I: slices.Repeat(half.I, 2)}))
	answers(t, api.OpConcat, along(0), []api.Tensor{half, half, counted(1, 32)}, 1, "ErrSize")
}

// P12.1: Split by what is told, and by parts that are all the same.
func TestSplit(t *testing.T) {
	x := "i2.4:1,2,3,4,5,6,7,8"
	split := func(axis int, in string, outs int, want string) {
		t.Helper()
		answers(t, api.OpSplit, along(axis), tensors(in), outs, want)
	}
	split(1, x+" i:1,3", 2, "i2.1:1,5 i2.3:2,3,4,6,7,8")
	split(-1, x+" i:3,1", 2, "i2.3:1,2,3,5,6,7 i2.1:4,8")
	split(1, x+" i:1,0,2,1", 4, "i2.1:1,5 i2.0: i2.2:2,3,6,7 i2.1:4,8")
	split(1, x, 2, "i2.2:1,2,5,6 i2.2:3,4,7,8")
	split(1, x+" -", 4, "i2.1:1,5 i2.1:2,6 i2.1:3,7 i2.1:4,8")
	split(0, x, 2, "i1.4:1,2,3,4 i1.4:5,6,7,8")
	split(0, x, 1, "i2.4:1,2,3,4,5,6,7,8")
	split(0, "b:", 3, "b: b: b:")
	split(0, "f:1,2 i:0,0,2", 3, "f: f: f:00000001,00000002")
	split(0, "i2.2.2:1,2,3,4,5,6,7,8 i:1,1", 2, "i1.2.2:1,2,3,4 i1.2.2:5,6,7,8")
	split(1, "i2.2.2:1,2,3,4,5,6,7,8 i:1,1", 2, "i2.1.2:1,2,5,6 i2.1.2:3,4,7,8")
	split(1, x, 3, "ErrShape")
	split(1, x+" i:1,3", 3, "ErrShape")
	split(1, x+" i:1,2", 2, "ErrShape")
	split(1, x+" i:5,-1", 2, "ErrShape")
	split(2, x, 2, "ErrAttr")
	for _, outs := range []int{-1 << 63, -1, 0, 65, 1 << 62} {
		split(0, x, outs, "ErrArg")
	}
	many := make([]int, api.MaxIn)
	for i := range many {
		many[i] = i
	}
	var parts []api.Tensor
	for _, n := range many {
		parts = append(parts, ints(n))
	}
	answers(t, api.OpSplit, plain, []api.Tensor{ints(many...)}, api.MaxIn, words(parts, api.OK))
}

// P12.1: no operator but Split has more outputs than one.
func TestOneOutput(t *testing.T) {
	m := maker{s: 1202}
	for _, op := range all() {
		for _, outs := range []int{-1 << 63, -1, 0, 2, 3, 64, 65, 1 << 62} {
			if n := m.any(op); op != api.OpSplit {
				answers(t, op, n.s, n.in, outs, "ErrArg")
			}
		}
	}
}

// P12.1: Pad by each mode, of one dim and of two, with an element and without.
func TestPad(t *testing.T) {
	for _, mode := range []int{api.ModeConstant, 0, -1, api.ModeAdd, api.ModeValid, 99} {
		gives(t, api.OpPad, by(mode), "i:1,2 i:1,2 i.:9", "i:9,1,2,9,9")
		gives(t, api.OpPad, by(mode), "i:1,2 i:1,2 -", "i:0,1,2,0,0")
		gives(t, api.OpPad, by(mode), "i1.2:1,2 i:1,0,0,1 i.:9", "i2.3:9,9,9,1,2,9")
		gives(t, api.OpPad, by(mode), "i2.0: i:0,1,0,0 i.:9", "i2.1:9,9")
		gives(t, api.OpPad, by(mode), "b: i:1,1 b.:1", "b:1,1")
		gives(t, api.OpPad, by(mode), "b: i:1,1", "b:0,0")
	}
	two := "i2.3:1,2,3,4,5,6"
	gives(t, api.OpPad, by(api.ModeEdge), two+" i:1,0,1,2", "i4.5:1,2,3,3,3,1,2,3,3,3,4,5,6,6,6,4,5,6,6,6")
	gives(t, api.OpPad, by(api.ModeEdge), two+" i:0,2,0,0 i.:9", "i2.5:1,1,1,2,3,4,4,4,5,6")
	gives(t, api.OpPad, by(api.ModeReflect), two+" i:1,2,1,1", "i4.6:6,5,4,5,6,5,3,2,1,2,3,2,6,5,4,5,6,5,3,2,1,2,3,2")
	gives(t, api.OpPad, by(api.ModeReflect), "i:1,2,3,4 i:3,3 i.:9", "i:4,3,2,1,2,3,4,3,2,1")
	gives(t, api.OpPad, by(api.ModeReflect), "i:1,2 i:1,1", "i:2,1,2,1")
	gives(t, api.OpPad, by(api.ModeReflect), "i:1,2 i:2,0", "ErrShape")
	gives(t, api.OpPad, by(api.ModeReflect), "i:1,2 i:0,2", "ErrShape")
	for _, mode := range []int{api.ModeConstant, api.ModeEdge, api.ModeReflect} {
		gives(t, api.OpPad, by(mode), "i.:5 i:", "i.:5")
		gives(t, api.OpPad, by(mode), "i.:5 i: i.:9", "i.:5")
		gives(t, api.OpPad, by(mode), "i1:5 i:0,0", "i:5")
		gives(t, api.OpPad, by(mode), "i2.0: i:1,0,1,0", "i4.0:")
		gives(t, api.OpPad, by(mode), "i:5,6 i:-1,1", "ErrShape")
		gives(t, api.OpPad, by(mode), "i:5,6 i:1,1,1", "ErrShape")
		gives(t, api.OpPad, by(mode), "i:5,6 i:1,0 i:9", "ErrShape")
		gives(t, api.OpPad, by(mode), "i:5,6 i:1,0 b.:1", "ErrType")
		gives(t, api.OpPad, by(mode), "i:5,6 i:4097,0", "ErrSize")
	}
	gives(t, api.OpPad, by(api.ModeEdge), "i: i:1,0", "ErrShape")
	gives(t, api.OpPad, by(api.ModeEdge), "i:5 i:2,1", "i:5,5,5,5")
}

// P12.1: a nought that is padded is the one above 0, and an element that is there lies as its Canon.
func TestPadFloats(t *testing.T) {
	gives(t, api.OpPad, plain, "f:80000000 i:1,1", "f:00000000,80000000,00000000")
	gives(t, api.OpPad, plain, "f:80000000 i:1,0 f.:80000000", "f:80000000,80000000")
	gives(t, api.OpPad, plain, "f:FFFFFFFF i:1,0 f.:7F800001", "f:7FC00000,7FC00000")
}

// P12.1: Tile goes round in each dim.
func TestTile(t *testing.T) {
	gives(t, api.OpTile, plain, "i1.2:1,2 i:2,3", "i2.6:1,2,1,2,1,2,1,2,1,2,1,2")
	gives(t, api.OpTile, plain, "i2.2:1,2,3,4 i:2,1", "i4.2:1,2,3,4,1,2,3,4")
	gives(t, api.OpTile, plain, "i2.2:1,2,3,4 i:1,2", "i2.4:1,2,1,2,3,4,3,4")
	gives(t, api.OpTile, plain, "b:1,0 i:0", "b:")
	gives(t, api.OpTile, plain, "f0.2: i:3,2", "f0.4:")
	gives(t, api.OpTile, plain, "f.:1 i:", "f.:00000001")
	gives(t, api.OpTile, plain, "i:1,2 i:-1", "ErrShape")
	gives(t, api.OpTile, plain, "i:1,2 i:2,2", "ErrShape")
	gives(t, api.OpTile, plain, "i:1,2 i:2049", "ErrSize")
}

// P12.1: Expand, to more dims, and where a told 1 is less than x's.
func TestExpand(t *testing.T) {
	gives(t, api.OpExpand, plain, "i2.1:1,2 i:2,3", "i2.3:1,1,1,2,2,2")
	gives(t, api.OpExpand, plain, "i:1,2 i:2,2", "i2.2:1,2,1,2")
	gives(t, api.OpExpand, plain, "i2.1:1,2 i:2", "i2.2:1,1,2,2")
	gives(t, api.OpExpand, plain, "i3.1:1,2,3 i:2,1,2", "i2.3.2:1,1,2,2,3,3,1,1,2,2,3,3")
	gives(t, api.OpExpand, plain, "i2.2:1,2,3,4 i:1", "i2.2:1,2,3,4")
	gives(t, api.OpExpand, plain, "b.:1 i:3", "b:1,1,1")
	gives(t, api.OpExpand, plain, "b.:1 i:", "b.:1")
	gives(t, api.OpExpand, plain, "f1.2:1,2 i:0,1", "f0.2:")
	gives(t, api.OpExpand, plain, "i:1,2 i:3", "ErrShape")
	gives(t, api.OpExpand, plain, "i:1 i:-1", "ErrShape")
	gives(t, api.OpExpand, plain, "i2:1,2 i:2049,1", "ErrSize")
}
