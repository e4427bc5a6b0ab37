package infer

import (
	"lattice/api"
	"lattice/shape"
	"lattice/tens"
)

// attrsFit: may the setting be what it is, of an operator with that first input?
func (o operation) attrsFit() bool {
	rank := len(o.in[0].Dims)
	switch o.op {
	case api.OpMod:
		return o.in[0].Type != api.Float || o.s.Fmod
	case api.OpCast:
		return isType(o.s.To)
	case api.OpTranspose:
		return !o.s.HasPerm || isOrder(o.s.Perm, rank)
	case api.OpConcat, api.OpSplit, api.OpGather, api.OpGatherElements, api.OpScatterElements,
		api.OpArgMax, api.OpArgMin, api.OpSoftmax, api.OpLayerNormalization:
		_, err := shape.Axis(o.s.Axis, rank)
		return err == api.OK
	case api.OpFlatten:
		return o.s.Axis >= -rank && o.s.Axis <= rank
	case api.OpConstantOfShape:
		return isSingle(o.s.Value)
	case api.OpDepthToSpace, api.OpSpaceToDepth:
		return isLength(o.s.Block)
	case api.OpReduceMean, api.OpReduceMax, api.OpReduceMin, api.OpReduceProd:
		_, err := shape.Axes(o.s.Axes, rank)
		return err == api.OK
	case api.OpConv:
		return isLength(o.s.Group) && isEmptyOr(2, o.s.Kernel) && o.windowsTold()
	case api.OpMaxPool, api.OpAveragePool:
		return len(o.s.Kernel) == 2 && o.windowsTold()
	}
	return true
}

// windowsTold: have the lists that tell of windows as many numbers as two dims ask for?
func (o operation) windowsTold() bool {
	return isEmptyOr(2, o.s.Strides) && isEmptyOr(2, o.s.Dilations) && isEmptyOr(4, o.s.Pads)
}

func isEmptyOr(n int, list []int) bool { return len(list) == 0 || len(list) == n }

// isLength: may it be how long something is that is not empty?
func isLength(n int) bool { return n >= 1 && n <= api.MaxElems }

// isSingle: is it a tensor that may be, of one element?
func isSingle(t api.Tensor) bool {
	size, err := shape.Size(t.Dims)
	return tens.Check(t) == api.OK && err == api.OK && size == 1
}

// isOrder: does a list have each of so many places once?
func isOrder(list []int, rank int) bool {
	if len(list) != rank {
		return false
	}
	// As many as there are places: if each is there, none is there twice.
places:
	for place := range rank {
		for _, p := range list {
			if p == place {
				continue places
			}
		}
		return false
	}
	return true
}
