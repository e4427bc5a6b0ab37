package ops

import (
	"slices"

	"lattice/api"
)

// row is what an operator takes.
type row struct {
	name              string
	leastIn, mostIn   int
	leastOut, mostOut int
	attrs             []attribute
}

// attribute is one that an operator may have: stands is what holds if it is left out, as bits, a truth, a number or a mode.
type attribute struct {
	name   string
	sort   sort
	stands int64
	need   need
}

type need int

const (
	optional need = iota
	required
)

// Bits of floats that stand for attributes that are left out.
const (
	floatHundredth  = 0x3c23d70a
	floatFifth      = 0x3e4ccccd
	floatHalf       = 0x3f000000
	floatOne        = int64(api.FloatOne)
	floatSmallShare = 0x3727c5ac // 1/100000
)

// rows are all operators, from the number 1 on.
func rows() []row { return slices.Concat(elementRows(), moveRows(), sumRows()) }

// find is an operator's row; a zero one, if there is none of that number.
func find(op int) row {
	if op <= api.OpNone || op > api.Ops {
		return row{}
	}
	return rows()[op-1]
}

// elementRows are the operators that go element by element.
func elementRows() []row {
	return []row{
		{"Abs", 1, 1, 1, 1, nil},
		{"Neg", 1, 1, 1, 1, nil},
		{"Sign", 1, 1, 1, 1, nil},
		{"Floor", 1, 1, 1, 1, nil},
		{"Ceil", 1, 1, 1, 1, nil},
		{"Round", 1, 1, 1, 1, nil},
		{"Sqrt", 1, 1, 1, 1, nil},
		{"Reciprocal", 1, 1, 1, 1, nil},
		{"Exp", 1, 1, 1, 1, nil},
		{"Log", 1, 1, 1, 1, nil},
		{"Sin", 1, 1, 1, 1, nil},
		{"Cos", 1, 1, 1, 1, nil},
		{"Tanh", 1, 1, 1, 1, nil},
		{"Erf", 1, 1, 1, 1, nil},
		{"Sigmoid", 1, 1, 1, 1, nil},
		{"Relu", 1, 1, 1, 1, nil},
		{"LeakyRelu", 1, 1, 1, 1, []attribute{{"alpha", float, floatHundredth, optional}}},
		{"Elu", 1, 1, 1, 1, []attribute{{"alpha", float, floatOne, optional}}},
		{"HardSigmoid", 1, 1, 1, 1, []attribute{{"alpha", float, floatFifth, optional}, {"beta", float, floatHalf, optional}}},
		{"Softplus", 1, 1, 1, 1, nil},
		{"Identity", 1, 1, 1, 1, nil},
		{"Not", 1, 1, 1, 1, nil},
		{"And", 2, 2, 1, 1, nil},
		{"Or", 2, 2, 1, 1, nil},
		{"Xor", 2, 2, 1, 1, nil},
		{"IsNaN", 1, 1, 1, 1, nil},
		{"IsInf", 1, 1, 1, 1, []attribute{{"detect_negative", flag, 1, optional}, {"detect_positive", flag, 1, optional}}},
		{"Add", 2, 2, 1, 1, nil},
		{"Sub", 2, 2, 1, 1, nil},
		{"Mul", 2, 2, 1, 1, nil},
		{"Div", 2, 2, 1, 1, nil},
		{"Mod", 2, 2, 1, 1, []attribute{{"fmod", flag, 0, optional}}},
		{"Pow", 2, 2, 1, 1, nil},
		{"Min", 2, 2, 1, 1, nil},
		{"Max", 2, 2, 1, 1, nil},
		{"PRelu", 2, 2, 1, 1, nil},
		{"Equal", 2, 2, 1, 1, nil},
		{"Less", 2, 2, 1, 1, nil},
		{"LessOrEqual", 2, 2, 1, 1, nil},
		{"Greater", 2, 2, 1, 1, nil},
		{"GreaterOrEqual", 2, 2, 1, 1, nil},
		{"Where", 3, 3, 1, 1, nil},
		{"Clip", 1, 3, 1, 1, nil},
		{"Cast", 1, 1, 1, 1, []attribute{{"to", element, 0, required}}},
	}
}

// moveRows are those that move elements, and those that make them.
func moveRows() []row {
	first := attribute{"axis", axis, 0, optional}
	block := attribute{"blocksize", size, 0, required}
	return []row{
		{"Transpose", 1, 1, 1, 1, []attribute{{"perm", places, 0, optional}}},
		{"Reshape", 2, 2, 1, 1, []attribute{{"allowzero", flag, 0, optional}}},
		{"Concat", 1, api.MaxIn, 1, 1, []attribute{{"axis", axis, 0, required}}},
		{"Split", 1, 2, 1, api.MaxIn, []attribute{first}},
		{"Slice", 3, 5, 1, 1, nil},
		{"Gather", 2, 2, 1, 1, []attribute{first}},
		{"GatherElements", 2, 2, 1, 1, []attribute{first}},
		{"ScatterElements", 3, 3, 1, 1, []attribute{first, {"reduction", reduction, api.ModeNone, optional}}},
		{"Pad", 2, 3, 1, 1, []attribute{{"mode", padMode, api.ModeConstant, optional}}},
		{"Tile", 2, 2, 1, 1, nil},
		{"Expand", 2, 2, 1, 1, nil},
		{"Squeeze", 1, 2, 1, 1, nil},
		{"Unsqueeze", 2, 2, 1, 1, nil},
		{"Flatten", 1, 1, 1, 1, []attribute{{"axis", axis, 1, optional}}},
		{"Shape", 1, 1, 1, 1, []attribute{{"end", whole, 0, optional}, {"start", whole, 0, optional}}},
		{"Size", 1, 1, 1, 1, nil},
		{"Constant", 0, 0, 1, 1, []attribute{
			{"value", tensor, 0, optional},
			{"value_float", float, 0, optional},
			{"value_floats", floats, 0, optional},
			{"value_int", whole, 0, optional},
			{"value_ints", wholes, 0, optional},
		}},
		{"ConstantOfShape", 1, 1, 1, 1, []attribute{{"value", single, 0, optional}}},
		{"DepthToSpace", 1, 1, 1, 1, []attribute{block, {"mode", depthMode, api.ModeDCR, optional}}},
		{"SpaceToDepth", 1, 1, 1, 1, []attribute{block}},
	}
}

// sumRows are those whose elements come of many each.
func sumRows() []row {
	first, last := attribute{"axis", axis, 0, optional}, attribute{"axis", axis, -1, optional}
	keep := attribute{"keepdims", flag, 1, optional}
	along := []attribute{{"axes", axes, 0, optional}, keep}
	best := []attribute{first, keep, {"select_last_index", flag, 0, optional}}
	epsilon := attribute{"epsilon", float, floatSmallShare, optional}
	auto := attribute{"auto_pad", autoPad, api.ModeNone, optional}
	ceil := attribute{"ceil_mode", flag, 0, optional}
	dilations := attribute{"dilations", sizes, 0, optional}
	window := attribute{"kernel_shape", sizes, 0, required}
	around := attribute{"pads", pads, 0, optional}
	strides := attribute{"strides", sizes, 0, optional}
	return []row{
		{"ReduceSum", 1, 2, 1, 1, []attribute{keep, {"noop_with_empty_axes", flag, 0, optional}}},
		{"ReduceMean", 1, 1, 1, 1, along},
		{"ReduceMax", 1, 1, 1, 1, along},
		{"ReduceMin", 1, 1, 1, 1, along},
		{"ReduceProd", 1, 1, 1, 1, along},
		{"ArgMax", 1, 1, 1, 1, best},
		{"ArgMin", 1, 1, 1, 1, best},
		{"Softmax", 1, 1, 1, 1, []attribute{last}},
		{"MatMul", 2, 2, 1, 1, nil},
		{"Gemm", 2, 3, 1, 1, []attribute{
			{"alpha", float, floatOne, optional},
			{"beta", float, floatOne, optional},
			{"transA", flag, 0, optional},
			{"transB", flag, 0, optional},
		}},
		{"Conv", 2, 3, 1, 1, []attribute{auto, dilations, {"group", size, 1, optional}, {"kernel_shape", sizes, 0, optional}, around, strides}},
		{"MaxPool", 1, 1, 1, 1, []attribute{auto, ceil, dilations, window, around, strides}},
		{"AveragePool", 1, 1, 1, 1, []attribute{auto, ceil, {"count_include_pad", flag, 0, optional}, window, around, strides}},
		{"GlobalAveragePool", 1, 1, 1, 1, nil},
		{"BatchNormalization", 5, 5, 1, 1, []attribute{epsilon, {"momentum", float, 0, optional}, {"training_mode", zero, 0, optional}}},
		{"LayerNormalization", 2, 3, 1, 1, []attribute{last, epsilon, {"stash_type", one, 1, optional}}},
	}
}
