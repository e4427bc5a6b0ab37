package onnx

import (
	"slices"

	"lattice/api"
)

// Check tells what is wrong with a model that is to be written.
func Check(m api.Model) api.Errno {
	switch {
	case !modelMayBe(m):
		return api.ErrArg
	case modelIsMuch(m):
		return api.ErrLimit
	}
	return api.OK
}

func modelMayBe(m api.Model) bool {
	return m.Opset == opset &&
		every(m.Nodes, nodeMayBe) &&
		every(m.Inits, func(i api.Init) bool { return tensorMayBe(i.T) }) &&
		every(m.Inputs, valueMayBe) &&
		every(m.Outputs, valueMayBe)
}

// every: is that so of each element?
func every[T any](list []T, so func(T) bool) bool {
	return !slices.ContainsFunc(list, func(e T) bool { return !so(e) })
}

func nodeMayBe(n api.Node) bool { return n.Op != "" && every(n.Attrs, attrMayBe) }

func attrMayBe(a api.Attr) bool {
	_, is := kept(a)
	if a.Kind == api.AttrTensor {
		is = tensorMayBe(a.T)
	}
	return is && isZero(others(a))
}

// others is an attribute without that field which its Kind names.
func others(a api.Attr) api.Attr {
	switch a.Kind {
	case api.AttrFloat:
		a.F = 0
	case api.AttrInt:
		a.I = 0
	case api.AttrText:
		a.S = ""
	case api.AttrTensor:
		a.T = api.Tensor{}
	case api.AttrFloats:
		a.Floats = nil
	case api.AttrInts:
		a.Ints = nil
	}
	return a
}

// isZero: is each field zero that a Kind may name?
func isZero(a api.Attr) bool {
	noTensor := a.T.Type == api.None && len(a.T.Dims) == 0 && elements(a.T) == 0
	return a.F == 0 && a.I == 0 && a.S == "" && noTensor && len(a.Floats) == 0 && len(a.Ints) == 0
}

// elements is how many there are in all lists of a tensor.
func elements(t api.Tensor) int { return len(t.F) + len(t.I) + len(t.B) }

func tensorMayBe(t api.Tensor) bool {
	n, err := Count(t.Dims)
	if width(t.Type) == 0 || err == api.ErrArg {
		return false
	}
	// Of dims that are too much there is no count to hold the elements against.
	return err != api.OK || own(t) == n && elements(t) == n
}

// own is how many elements there are in the list of a tensor's type.
func own(t api.Tensor) int {
	switch t.Type {
	case api.Float:
		return len(t.F)
	case api.Int:
		return len(t.I)
	}
	return len(t.B)
}

func valueMayBe(v api.Value) bool {
	_, err := Count(v.Dims)
	return width(v.Type) > 0 && err != api.ErrArg
}

func modelIsMuch(m api.Model) bool {
	return nameIsMuch(m.Name) ||
		len(m.Nodes) > api.MaxNodes || slices.ContainsFunc(m.Nodes, nodeIsMuch) ||
		len(m.Inits) > api.MaxNodes || slices.ContainsFunc(m.Inits, initIsMuch) ||
		len(m.Inputs) > api.MaxIn || slices.ContainsFunc(m.Inputs, valueIsMuch) ||
		len(m.Outputs) > api.MaxIn || slices.ContainsFunc(m.Outputs, valueIsMuch)
}

func nameIsMuch(name string) bool { return len(name) > api.MaxName }

func nodeIsMuch(n api.Node) bool {
	return nameIsMuch(n.Op) || nameIsMuch(n.Name) ||
		len(n.In) > api.MaxIn || slices.ContainsFunc(n.In, nameIsMuch) ||
		len(n.Out) > api.MaxIn || slices.ContainsFunc(n.Out, nameIsMuch) ||
		len(n.Attrs) > api.MaxIn || slices.ContainsFunc(n.Attrs, attrIsMuch)
}

func attrIsMuch(a api.Attr) bool {
	return nameIsMuch(a.Name) || len(a.S) > api.MaxElems || dimsAreMuch(a.T.Dims) || len(a.Floats) > api.MaxElems || len(a.Ints) > api.MaxElems
}

func initIsMuch(i api.Init) bool { return nameIsMuch(i.Name) || dimsAreMuch(i.T.Dims) }

func valueIsMuch(v api.Value) bool { return nameIsMuch(v.Name) || dimsAreMuch(v.Dims) }

func dimsAreMuch(dims []int) bool {
	_, err := Count(dims)
	return err == api.ErrLimit
}
