package infer

import (
	"slices"

	"lattice/api"
	"lattice/shape"
)

// fits are dims, or none and ErrShape, if they do not fit.
func fits(ok bool, dims []int) ([]int, api.Errno) {
	if !ok {
		return nil, api.ErrShape
	}
	return dims, api.OK
}

// dims are those of an input.
func (o operation) dims(i int) []int { return o.in[i].Dims }

// hasDims: is an input left out, or does it have just these dims?
func (o operation) hasDims(i int, dims ...int) bool {
	return !o.has(i) || slices.Equal(o.dims(i), dims)
}

// axis is the setting's, which was asked already.
func (o operation) axis() int {
	at, _ := shape.Axis(o.s.Axis, len(o.dims(0)))
	return at
}

// product is of all dims; held at one above the most, so that it can't come round, and a 0 still makes it 0.
func product(dims []int) int {
	n := 1
	for _, d := range dims {
		n = min(n*d, api.MaxElems+1)
	}
	return n
}

// shapes are those of all outputs.
func (o operation) shapes() ([][]int, api.Errno) {
	if o.op == api.OpSplit {
		return o.parts()
	}
	dims, err := o.shape()
	return [][]int{dims}, err
}

// shape is that of an operator with one output. What is not named here has the shape of its first input.
func (o operation) shape() ([]int, api.Errno) {
	switch o.op {
	case api.OpAnd, api.OpOr, api.OpXor, api.OpAdd, api.OpSub, api.OpMul, api.OpDiv, api.OpMod, api.OpPow, api.OpMin, api.OpMax,
		api.OpEqual, api.OpLess, api.OpLessOrEqual, api.OpGreater, api.OpGreaterOrEqual:
		return shape.Broadcast(o.dims(0), o.dims(1))
	case api.OpPRelu:
		return fits(goesInto(o.dims(1), o.dims(0)), o.dims(0))
	case api.OpWhere:
		return o.chosen()
	case api.OpClip:
		return fits(o.hasDims(1) && o.hasDims(2), o.dims(0))
	case api.OpReduceSum, api.OpReduceMean, api.OpReduceMax, api.OpReduceMin, api.OpReduceProd:
		return o.reduced()
	case api.OpArgMax, api.OpArgMin:
		return o.best()
	case api.OpMatMul:
		return o.multiplied()
	case api.OpGemm:
		return o.gemm()
	case api.OpConv:
		return o.convolved()
	case api.OpMaxPool, api.OpAveragePool:
		return o.pooled()
	case api.OpGlobalAveragePool:
		return o.averaged()
	case api.OpBatchNormalization:
		return o.normedByChannels()
	case api.OpLayerNormalization:
		return o.normedByRows()
	}
	return o.moved()
}

// goesInto: are both shapes together the second one?
func goesInto(small, dims []int) bool {
	both, err := shape.Broadcast(small, dims)
	return err == api.OK && slices.Equal(both, dims)
}

// chosen is the shape of a Where.
func (o operation) chosen() ([]int, api.Errno) {
	both, err := shape.Broadcast(o.dims(0), o.dims(1))
	if err != api.OK {
		return nil, err
	}
	return shape.Broadcast(both, o.dims(2))
}
