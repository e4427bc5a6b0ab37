package infer

import "lattice/api"

// isType: is it one of the three that a tensor may have?
func isType(kind int) bool { return kind == api.Float || kind == api.Int || kind == api.Bool }

// isNumber: is it a type of numbers?
func isNumber(kind int) bool { return kind == api.Float || kind == api.Int }

// alike: are both of one type?
func (o operation) alike(i, j int) bool { return o.in[i].Type == o.in[j].Type }

// alikeIfThere: is an input left out, or of one type with the first one?
func (o operation) alikeIfThere(i int) bool { return !o.has(i) || o.alike(0, i) }

// allOf: are all inputs that are there of that type?
func (o operation) allOf(kind int) bool {
	for i, v := range o.in {
		if o.has(i) && v.Type != kind {
			return false
		}
	}
	return true
}

// allAlike: are all inputs of one type? None of them may be left out.
func (o operation) allAlike() bool {
	for i := range o.in {
		if !o.alike(0, i) {
			return false
		}
	}
	return true
}

// typesFit: does the operator take inputs of these types?
func (o operation) typesFit() bool {
	return o.toldAreInts() && o.othersFit()
}

// toldAreInts: are all told lists, that are there, whole numbers?
func (o operation) toldAreInts() bool {
	for _, i := range o.toldPlaces() {
		if o.in[i].Type != api.Int {
			return false
		}
	}
	return true
}

// othersFit: likewise of the inputs that are no told lists.
func (o operation) othersFit() bool {
	x := o.in[0].Type
	switch o.op {
	case api.OpAbs, api.OpNeg, api.OpSign, api.OpReduceSum, api.OpReduceMax, api.OpReduceMin, api.OpReduceProd,
		api.OpArgMax, api.OpArgMin:
		return isNumber(x)
	case api.OpNot, api.OpAnd, api.OpOr, api.OpXor:
		return o.allOf(api.Bool)
	case api.OpAdd, api.OpSub, api.OpMul, api.OpDiv, api.OpMod, api.OpMin, api.OpMax,
		api.OpLess, api.OpLessOrEqual, api.OpGreater, api.OpGreaterOrEqual:
		return isNumber(x) && o.alike(0, 1)
	case api.OpEqual:
		return o.alike(0, 1)
	case api.OpWhere:
		return x == api.Bool && o.alike(1, 2)
	case api.OpClip:
		return isNumber(x) && o.alikeIfThere(1) && o.alikeIfThere(2)
	case api.OpConcat:
		return o.allAlike()
	case api.OpGather, api.OpGatherElements:
		return o.in[1].Type == api.Int
	case api.OpScatterElements:
		// Truths can't be added or multiplied; whether a mode that is none of these is asked to, its number alone tells.
		return o.in[1].Type == api.Int && o.alike(0, 2) && (x != api.Bool || o.s.Mode == api.ModeNone)
	case api.OpPad:
		return o.alikeIfThere(2)
	case api.OpIdentity, api.OpCast, api.OpTranspose, api.OpReshape, api.OpSplit, api.OpSlice, api.OpTile, api.OpExpand,
		api.OpSqueeze, api.OpUnsqueeze, api.OpFlatten, api.OpShape, api.OpSize, api.OpConstantOfShape,
		api.OpDepthToSpace, api.OpSpaceToDepth:
		return true
	}
	// All that is left reckons with floats alone.
	return o.allOf(api.Float)
}

// outputType is that of all outputs.
func (o operation) outputType() int {
	switch o.op {
	case api.OpIsNaN, api.OpIsInf, api.OpEqual,
		api.OpLess, api.OpLessOrEqual, api.OpGreater, api.OpGreaterOrEqual:
		return api.Bool
	case api.OpShape, api.OpSize, api.OpArgMax, api.OpArgMin:
		return api.Int
	case api.OpWhere:
		return o.in[1].Type
	case api.OpCast:
		return o.s.To
	case api.OpConstantOfShape:
		return o.s.Value.Type
	}
	return o.in[0].Type
}
