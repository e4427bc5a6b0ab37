// Package checks holds tests of what no single layer stands for: the document's numbers, and the language that the program keeps to.
package checks

import (
	"errors"
	"strconv"
	"strings"
	"testing"

	"lattice/api"
)

// The errors, limits, kinds, types, modes, ways and floats of the document's section 'Words'.
func TestNumbers(t *testing.T) {
	for _, c := range []struct {
		name string
		got  []int
		want []int
	}{
		{"limits", []int{api.MaxDims, api.MaxElems, api.MaxNodes, api.MaxIn, api.MaxBytes, api.MaxName, api.MaxWorkers, api.MaxPicks, api.TileSize, api.Ops},
			[]int{8, 4096, 1024, 64, 4194304, 256, 64, 65536, 16, 80}},
		{"kinds of attributes", []int{api.AttrNone, api.AttrFloat, api.AttrInt, api.AttrText, api.AttrTensor, api.AttrFloats, api.AttrInts}, []int{0, 1, 2, 3, 4, 6, 7}},
		{"types", []int{api.None, api.Float, api.Int, api.Bool}, []int{0, 1, 7, 9}},
		{"modes", []int{api.ModeNone, api.ModeConstant, api.ModeReflect, api.ModeEdge, api.ModeAdd, api.ModeMul, api.ModeDCR, api.ModeCRD, api.ModeValid, api.ModeUpper, api.ModeLower}, upTo(10)},
		{"of compiling", []int{api.Strict, api.Quick}, upTo(1)},
		{"ways to round", []int{api.Nearest, api.Up, api.Down}, upTo(2)},
		{"floats", []int{int(api.FloatNaN), int(api.FloatInf), int(api.FloatMost), int(api.FloatOne), int(api.FloatSign)}, []int{0x7FC00000, 0x7F800000, 0x7F7FFFFF, 0x3F800000, 0x80000000}},
	} {
		same(t, c.name, c.got, c.want)
	}
}

// The errors are of api's own type, from OK on, and tell their number.
func TestErrors(t *testing.T) {
	for want, e := range []api.Errno{api.OK, api.ErrArg, api.ErrPlace, api.ErrShape, api.ErrSize, api.ErrType, api.ErrMalformed, api.ErrUnsupported, api.ErrLimit,
		api.ErrArena, api.ErrDivide, api.ErrIndex, api.ErrCycle, api.ErrName, api.ErrAttr, api.ErrConst, api.ErrRange, api.ErrInput} {
		if int(e) != want || !strings.Contains(e.Error(), strconv.Itoa(want)) {
			t.Errorf("error %d is %d: %s", want, int(e), e.Error())
		}
		if !errors.Is(error(e), api.Errno(want)) {
			t.Errorf("error %d is not itself", want)
		}
	}
}

// The operators' numbers go from OpNone 0 to 80 in the document's order.
func TestOperators(t *testing.T) {
	same(t, "operators", []int{api.OpNone, api.OpAbs, api.OpNeg, api.OpSign, api.OpFloor, api.OpCeil, api.OpRound, api.OpSqrt, api.OpReciprocal, api.OpExp, api.OpLog,
		api.OpSin, api.OpCos, api.OpTanh, api.OpErf, api.OpSigmoid, api.OpRelu, api.OpLeakyRelu, api.OpElu, api.OpHardSigmoid, api.OpSoftplus, api.OpIdentity,
		api.OpNot, api.OpAnd, api.OpOr, api.OpXor, api.OpIsNaN, api.OpIsInf, api.OpAdd, api.OpSub, api.OpMul, api.OpDiv, api.OpMod, api.OpPow, api.OpMin, api.OpMax,
		api.OpPRelu, api.OpEqual, api.OpLess, api.OpLessOrEqual, api.OpGreater, api.OpGreaterOrEqual, api.OpWhere, api.OpClip, api.OpCast, api.OpTranspose,
		api.OpReshape, api.OpConcat, api.OpSplit, api.OpSlice, api.OpGather, api.OpGatherElements, api.OpScatterElements, api.OpPad, api.OpTile, api.OpExpand,
		api.OpSqueeze, api.OpUnsqueeze, api.OpFlatten, api.OpShape, api.OpSize, api.OpConstant, api.OpConstantOfShape, api.OpDepthToSpace, api.OpSpaceToDepth,
		api.OpReduceSum, api.OpReduceMean, api.OpReduceMax, api.OpReduceMin, api.OpReduceProd, api.OpArgMax, api.OpArgMin, api.OpSoftmax, api.OpMatMul, api.OpGemm,
		api.OpConv, api.OpMaxPool, api.OpAveragePool, api.OpGlobalAveragePool, api.OpBatchNormalization, api.OpLayerNormalization}, upTo(80))
}

// upTo is 0, 1 .. n.
func upTo(n int) []int {
	var list []int
	for i := range n + 1 {
		list = append(list, i)
	}
	return list
}

func same(t *testing.T, name string, got, want []int) {
	t.Helper()
	if len(got) != len(want) {
		t.Errorf("%s: %d numbers, want %d", name, len(got), len(want))
		return
	}
	for i := range got {
		if got[i] != want[i] {
			t.Errorf("%s: number %d is %d, want %d", name, i, got[i], want[i])
		}
	}
}
