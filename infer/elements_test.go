package infer_test

import (
	"slices"
	"strings"
	"testing"

	"lattice/api"
)

// letters are those of the three types.
const letters = "fib"

// types: of one input, an operator makes of each letter the one at the same place; a line: it is refused.
func types(t *testing.T, s api.Setting, made string, ops ...int) {
	t.Helper()
	for _, op := range ops {
		for i := range letters {
			in := letters[i:i+1] + "1.2.0"
			want := made[i:i+1] + "1.2.0"
			if made[i] == '-' {
				want = "ErrType"
			}
			says(t, op, s, in, want)
		}
	}
}

// P10.1: operators of one input, element by element: each type of it.
func TestOneInput(t *testing.T) {
	types(t, plain, "fi-", api.OpAbs, api.OpNeg, api.OpSign)
	types(t, plain, "f--", through(api.OpFloor, api.OpSoftplus)...)
	types(t, plain, "fib", api.OpIdentity)
	types(t, plain, "--b", api.OpNot)
	types(t, plain, "b--", api.OpIsNaN, api.OpIsInf)
	types(t, api.Setting{To: api.Float}, "fff", api.OpCast)
	types(t, api.Setting{To: api.Int}, "iii", api.OpCast)
	types(t, api.Setting{To: api.Bool}, "bbb", api.OpCast)
	for _, to := range []int{-1, 0, 2, 6, 8, 10, 1 << 40} {
		says(t, api.OpCast, api.Setting{To: to}, "f2", "ErrAttr")
	}
	for _, op := range []int{api.OpAbs, api.OpExp, api.OpIdentity} {
		says(t, op, plain, "f", "f")
		says(t, op, plain, "f4096", "f4096")
		says(t, op, plain, "f1.2.1.2.1.2.1.2", "f1.2.1.2.1.2.1.2")
	}
}

// pairs: of two inputs, an operator makes of the same letters the one at the same place, and refuses unlike ones.
func pairs(t *testing.T, s api.Setting, made string, ops ...int) {
	t.Helper()
	for _, op := range ops {
		for i, a := range letters {
			for j, b := range letters {
				in := string(a) + "3.1 " + string(b) + "2.1.4"
				if i != j || made[i] == '-' {
					says(t, op, s, in, "ErrType")
					continue
				}
				says(t, op, s, in, made[i:i+1]+"2.3.4")
				in = string(a) + "3.2 " + string(b) + "3.3"
				says(t, op, s, in, "ErrShape")
				in = string(a) + "65.1 " + string(b) + "64"
				says(t, op, s, in, "ErrSize")
				in = string(a) + " " + string(b)
				says(t, op, s, in, made[i:i+1])
				in = string(a) + "0.1 " + string(b) + "7"
				says(t, op, s, in, made[i:i+1]+"0.7")
			}
		}
	}
}

// P10.1: operators of two inputs: alike ones, and what they are together.
func TestTwoInputs(t *testing.T) {
	pairs(t, plain, "--b", api.OpAnd, api.OpOr, api.OpXor)
	pairs(t, plain, "fi-", api.OpAdd, api.OpSub, api.OpMul, api.OpDiv, api.OpMin, api.OpMax)
	pairs(t, api.Setting{Fmod: true}, "fi-", api.OpMod)
	pairs(t, plain, "f--", api.OpPow)
	pairs(t, plain, "bbb", api.OpEqual)
	pairs(t, plain, "bb-", through(api.OpLess, api.OpGreaterOrEqual)...)
}

// P10.1: Mod of floats asks for Fmod.
func TestMod(t *testing.T) {
	says(t, api.OpMod, plain, "i3 i3", "i3")
	says(t, api.OpMod, plain, "f3 f3", "ErrAttr")
	says(t, api.OpMod, plain, "f3 f2", "ErrAttr")
	says(t, api.OpMod, plain, "f3 i3", "ErrType")
	says(t, api.OpMod, plain, "b3 b3", "ErrType")
	says(t, api.OpMod, plain, "i3 i2", "ErrShape")
	says(t, api.OpMod, api.Setting{Fmod: true}, "f3 f1", "f3")
	says(t, api.OpMod, api.Setting{Fmod: true}, "i3 i1", "i3")
}

// P10.1: what PRelu has beside its input goes into that.
func TestPRelu(t *testing.T) {
	for in, want := range map[string]string{
		"f2.3 f3":       "f2.3",
		"f2.3 f2.1":     "f2.3",
		"f2.3 f":        "f2.3",
		"f2.3 f1.1":     "f2.3",
		"f f":           "f",
		"f0.3 f1":       "f0.3",
		"f2.3 f2":       "ErrShape",
		"f2.3 f1.2.3":   "ErrShape",
		"f f1":          "ErrShape",
		"f3 f2.3":       "ErrShape",
		"f1 f3":         "ErrShape",
		"f2.3 f0":       "ErrShape",
		"f1 f0":         "ErrShape",
		"f64.1 f1.65":   "ErrShape",
		"f2.3 i3":       "ErrType",
		"i2.3 i3":       "ErrType",
		"f1.4096 f2.1":  "ErrShape",
		"f4096.1 f4096": "ErrShape",
	} {
		says(t, api.OpPRelu, plain, in, want)
	}
}

// P10.1: Where asks its first input for truths, and the others to be alike; two shapes at first, then the third.
func TestWhere(t *testing.T) {
	for in, want := range map[string]string{
		"b2.1 f3 f4.1.1":          "f4.2.3",
		"b3 i i":                  "i3",
		"b b b":                   "b",
		"b1 f0 f1":                "f0",
		"f3 f3 f3":                "ErrType",
		"i3 f3 f3":                "ErrType",
		"b3 f3 i3":                "ErrType",
		"b3 b3 f3":                "ErrType",
		"b2 f3 f1":                "ErrShape",
		"b2 f1 f3":                "ErrShape",
		"b1 f2 f3":                "ErrShape",
		"b64.1 f1.65 f1":          "ErrSize",
		"b64.1 f1 f1.65":          "ErrSize",
		"b64.1 f1.65 f3":          "ErrSize",
		"b2 f3 f64.64":            "ErrShape",
		"b1.1.1.1.1.1.1.1 f1 f2":  "f1.1.1.1.1.1.1.2",
		"b2.1.1 f2.1 f2":          "f2.2.2",
		"b1.64 f64.1 f2.1.1":      "ErrSize",
		"b1.1 f64.64 f64.1":       "f64.64",
		"b4096 f f1":              "f4096",
		"b2.2 f2.2 f3.2":          "ErrShape",
		"b2.2 f2.2 f2.3":          "ErrShape",
		"b2.1 f1.2 f2.2.2":        "f2.2.2",
		"b0 f1 f2":                "ErrShape",
		"b0 f1 f0":                "f0",
		"b1.1.1.1.1.1.1.1 i1 i1":  "i1.1.1.1.1.1.1.1",
		"b1.1.1.1.1.1.1.2 i3 i1":  "ErrShape",
		"b1.1.1.1.1.1.1.2 i3 f65": "ErrType",
	} {
		says(t, api.OpWhere, plain, in, want)
	}
}

// P10.1: Clip's bounds may be left out, each by itself; they have no dims, and are alike with what is clipped.
func TestClip(t *testing.T) {
	for in, want := range map[string]string{
		"f2.3":     "f2.3",
		"i2.3":     "i2.3",
		"f2.3 f":   "f2.3",
		"f2.3 - f": "f2.3",
		"f2.3 f -": "f2.3",
		"f2.3 - -": "f2.3",
		"i f":      "ErrType",
		"i2 i i":   "i2",
		"b2":       "ErrType",
		"b2 b b":   "ErrType",
		"f2 i":     "ErrType",
		"f2 f i":   "ErrType",
		"f2 - i":   "ErrType",
		"f2 f1":    "ErrShape",
		"f2 f f1":  "ErrShape",
		"f2 - f2":  "ErrShape",
		"f2 f0 f":  "ErrShape",
		"- f f":    "ErrArg",
		"f f f f":  "ErrArg",
	} {
		says(t, api.OpClip, plain, in, want)
	}
}

// P10.1: what an operator does not ask for says nothing.
func TestOtherFields(t *testing.T) {
	odd := api.Setting{Axis: 99, Axes: []int{9, 9}, Perm: []int{7}, To: 55, Mode: -4, Group: -1, Kernel: []int{1, 2, 3}, Strides: []int{0},
		Pads: []int{-1}, Dilations: []int{0, 0, 0}, Auto: 77, Ceil: true, Block: -3, Start: 9, End: -9, HasEnd: true, Value: api.Tensor{Type: 4}}
	says(t, api.OpAdd, odd, "f3.1 f2.1.4", "f2.3.4")
	says(t, api.OpWhere, odd, "b f f2", "f2")
	says(t, api.OpClip, odd, "f5", "f5")
	says(t, api.OpReshape, odd, "f4 t2,2", "f2.2")
	says(t, api.OpTranspose, odd, "f4.3", "f3.4")
	says(t, api.OpSize, odd, "f4.3", "i")
	says(t, api.OpMatMul, odd, "f4.3 f3.2", "f4.2")
	says(t, api.OpGemm, odd, "f4.3 f3.2", "f4.2")
	says(t, api.OpReduceSum, odd, "f4.3 t0", "f3")
	says(t, api.OpBatchNormalization, odd, "f4.3 f3 f3 f3 f3", "f4.3")
	for _, op := range []int{api.OpTile, api.OpExpand} {
		says(t, op, odd, "f2.2 t1,2", map[int]string{api.OpTile: "f2.4", api.OpExpand: "f2.2"}[op])
	}
}

// arity is how many inputs and outputs each operator takes: the least and the most of each, by the table of chapter 8.
func arity(op int) (int, int, int) {
	least, most, outs := 0, 0, 1
	switch {
	case op == api.OpConcat:
		return 1, 64, 1
	case op == api.OpSplit:
		return 1, 2, 64
	case op == api.OpSlice:
		return 3, 5, 1
	case op == api.OpClip:
		return 1, 3, 1
	case op == api.OpBatchNormalization:
		return 5, 5, 1
	case slices.Contains([]int{api.OpWhere, api.OpScatterElements}, op):
		least, most = 3, 3
	case slices.Contains([]int{api.OpPad, api.OpGemm, api.OpConv, api.OpLayerNormalization}, op):
		least, most = 2, 3
	case slices.Contains([]int{api.OpSqueeze, api.OpReduceSum}, op):
		least, most = 1, 2
	case op >= api.OpAnd && op <= api.OpXor, op >= api.OpAdd && op <= api.OpGreaterOrEqual,
		slices.Contains([]int{api.OpReshape, api.OpGather, api.OpGatherElements, api.OpTile, api.OpExpand, api.OpUnsqueeze, api.OpMatMul}, op):
		least, most = 2, 2
	default:
		least, most = 1, 1
	}
	return least, most, outs
}

// P10.1: as many inputs and outputs as the operator takes, and those there that must be: asked ahead of all else.
func TestArity(t *testing.T) {
	for op := 1; op <= api.Ops; op++ {
		if op == api.OpConstant {
			continue
		}
		least, most, outs := arity(op)
		// Of types and dims that no operator takes, nothing but ErrArg tells what is wrong with their number.
		for n := range 70 {
			in := vals(strings.Repeat("f9999 ", n))
			for _, count := range []int{-1 << 63, -1, 0, 1, 2, 3, 63, 64, 65, 1 << 40} {
				want := "ErrSize"
				if n < least || n > most || count < 1 || count > outs {
					want = "ErrArg"
				}
				gives(t, op, plain, in, count, want)
			}
		}
		for i := range most {
			in := vals(strings.Repeat("f9999 ", most))
			in[i] = api.Val{Dims: []int{-1}}
			want := "ErrSize"
			if i < least {
				want = "ErrArg"
			}
			if most > 1 || least == 1 {
				gives(t, op, plain, in, 1, want)
			}
		}
	}
	for _, op := range []int{-1 << 63, -1, 0, 81, 82, 1 << 40, api.OpConstant} {
		for n := range 4 {
			for outs := range 3 {
				gives(t, op, plain, vals(strings.Repeat("f2 ", n)), outs, "ErrArg")
			}
		}
	}
}

// P10.1: an input that is there has dims that may be; asked ahead of its type. What is left out may have any.
func TestInputsMayBe(t *testing.T) {
	for _, dims := range [][]int{{-1}, {0, -1}, {4097}, {0, 4097}, {64, 65}, {1, 1, 1, 1, 1, 1, 1, 1, 1}, {0, 0, 0, 0, 0, 0, 0, 0, 0}, {1 << 32, 1 << 32}, {-1 << 63}, {1 << 62, 4}} {
		bad := api.Val{Type: api.Bool, Dims: dims}
		gives(t, api.OpRelu, plain, []api.Val{bad}, 1, "ErrSize")
		gives(t, api.OpAdd, plain, []api.Val{val("f2"), bad}, 1, "ErrSize")
		gives(t, api.OpAdd, plain, []api.Val{bad, val("f2")}, 1, "ErrSize")
		gives(t, api.OpClip, plain, []api.Val{val("b2"), val("-"), bad}, 1, "ErrSize")
		gives(t, api.OpReshape, plain, []api.Val{val("f2"), bad}, 1, "ErrSize")
		gives(t, api.OpConcat, api.Setting{Axis: 9}, append(vals(strings.Repeat("f2 ", 63)), bad), 1, "ErrSize")
		gone := api.Val{Dims: dims, Const: true, T: whole([]int{1}, 5)}
		gives(t, api.OpClip, plain, []api.Val{val("f2"), gone, val("f")}, 1, "f2")
		gives(t, api.OpSplit, plain, []api.Val{val("f2"), gone}, 2, "f1 f1")
		gives(t, api.OpSlice, plain, []api.Val{val("f5"), told(1), told(9), gone, gone}, 1, "f4")
		gives(t, api.OpReduceSum, api.Setting{Keep: true}, []api.Val{val("f5.2"), gone}, 1, "f1.1")
		gives(t, api.OpSqueeze, plain, []api.Val{val("f1.5.1"), gone}, 1, "f5")
	}
}

// P10.1: a type that is none of the three is no number's, but may be any, and alike with itself.
func TestStrangeTypes(t *testing.T) {
	for _, kind := range []int{-1, 2, 3, 6, 8, 10, 1 << 40} {
		x := api.Val{Type: kind, Dims: []int{2, 3}}
		for _, op := range []int{api.OpAbs, api.OpRelu, api.OpNot, api.OpIsNaN, api.OpReduceMax, api.OpArgMax, api.OpSoftmax, api.OpMaxPool} {
			gives(t, op, plain, []api.Val{x}, 1, "ErrType")
		}
		for _, op := range []int{api.OpAnd, api.OpAdd, api.OpPow, api.OpLess, api.OpMatMul, api.OpReshape, api.OpGather} {
			gives(t, op, plain, []api.Val{x, x}, 1, "ErrType")
		}
		gives(t, api.OpWhere, plain, []api.Val{x, x, x}, 1, "ErrType")
		gives(t, api.OpEqual, plain, []api.Val{x, x}, 1, "b2.3")
		gives(t, api.OpSize, plain, []api.Val{x}, 1, "i")
		gives(t, api.OpCast, api.Setting{To: api.Bool}, []api.Val{x}, 1, "b2.3")
		same := words([]api.Val{x}, api.OK)
		gives(t, api.OpIdentity, plain, []api.Val{x}, 1, same)
		gives(t, api.OpConcat, plain, []api.Val{x}, 1, same)
		gives(t, api.OpWhere, plain, []api.Val{val("b"), x, x}, 1, same)
	}
}
