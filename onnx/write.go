package onnx

import (
	"lattice/api"
	"lattice/pbuf"
)

// Encode is a model's file.
func Encode(m api.Model) ([]byte, api.Errno) {
	if err := Check(m); err != api.OK {
		return nil, err
	}
	var file writer
	file.number(modelVersion, fileVersion)
	file.inner(modelGraph, func(graph *writer) { writeGraph(graph, m) })
	file.inner(modelSets, func(set *writer) { set.number(setVersion, opset) })
	if file.full {
		return nil, api.ErrLimit
	}
	return file.bytes, api.OK
}

// writer puts a message together. It is full as soon as that would be longer than a file may be, and takes no more then, since lists may be far longer than a file.
type writer struct {
	bytes []byte
	full  bool
}

func (w *writer) field(f pbuf.Field) {
	b, err := pbuf.Write([]pbuf.Field{f})
	w.full = w.full || err != api.OK || len(w.bytes)+len(b) > api.MaxBytes
	if !w.full {
		w.bytes = append(w.bytes, b...)
	}
}

func (w *writer) number(num int, x int64) {
	w.field(pbuf.Field{Num: num, Wire: varintWire, X: uint64(x)})
}

func (w *writer) float(num int, bits uint32) {
	w.field(pbuf.Field{Num: num, Wire: fourWire, X: uint64(bits)})
}

func (w *writer) data(num int, b []byte) {
	w.field(pbuf.Field{Num: num, Wire: dataWire, Data: b})
}

// filled has no field, if there are no bytes.
func (w *writer) filled(num int, b []byte) {
	if len(b) > 0 {
		w.data(num, b)
	}
}

func (w *writer) name(num int, name string) { w.filled(num, []byte(name)) }

// inner has what write puts into a message of its own.
func (w *writer) inner(num int, write func(*writer)) {
	var in writer
	write(&in)
	w.full = w.full || in.full
	w.data(num, in.bytes)
}

// writeEach has a message for each element of a list.
func writeEach[T any](w *writer, num int, list []T, write func(*writer, T)) {
	for _, e := range list {
		if w.full {
			return
		}
		w.inner(num, func(in *writer) { write(in, e) })
	}
}

func writeGraph(w *writer, m api.Model) {
	writeEach(w, graphNodes, m.Nodes, writeNode)
	w.name(graphName, m.Name)
	writeEach(w, graphInits, m.Inits, writeInit)
	writeEach(w, graphInputs, m.Inputs, writeValue)
	writeEach(w, graphOutputs, m.Outputs, writeValue)
}

func writeNode(w *writer, n api.Node) {
	for _, name := range n.In {
		w.data(nodeIn, []byte(name))
	}
	for _, name := range n.Out {
		w.data(nodeOut, []byte(name))
	}
	w.name(nodeName, n.Name)
	w.name(nodeOp, n.Op)
	writeEach(w, nodeAttrs, n.Attrs, writeAttr)
}

func writeAttr(w *writer, a api.Attr) {
	w.name(attrName, a.Name)
	switch a.Kind {
	case api.AttrFloat:
		w.float(attrFloat, a.F)
	case api.AttrInt:
		w.number(attrInt, a.I)
	case api.AttrText:
		w.data(attrText, []byte(a.S))
	case api.AttrTensor:
		w.inner(attrTensor, func(in *writer) { writeInit(in, api.Init{T: a.T}) })
	case api.AttrFloats:
		w.filled(attrFloats, laid(a.Floats, floatBytes))
	case api.AttrInts:
		w.filled(attrInts, laid(a.Ints, varint[int64]))
	}
	w.number(attrKind, int64(a.Kind))
}

func writeInit(w *writer, i api.Init) {
	w.filled(tensorDims, laid(i.T.Dims, varint[int]))
	w.number(tensorType, int64(i.T.Type))
	w.name(tensorName, i.Name)
	w.data(tensorRaw, raw(i.T))
}

func writeValue(w *writer, v api.Value) {
	w.name(valueName, v.Name)
	w.inner(valueSort, func(sort *writer) {
		sort.inner(sortTensor, func(typed *writer) {
			typed.number(typedType, int64(v.Type))
			typed.inner(typedShape, func(shape *writer) { writeEach(shape, shapeDims, v.Dims, writeDim) })
		})
	})
}

func writeDim(w *writer, dim int) { w.number(dimNumber, int64(dim)) }

// raw is a tensor's elements; one of its lists has all of them.
func raw(t api.Tensor) []byte {
	b := laid(t.F, floatBytes)
	b = append(b, laid(t.I, func(x int64) []byte { return wide(uint64(x), width(api.Int)) })...)
	return append(b, laid(t.B, truthByte)...)
}

// laid is a list's elements one behind the other.
func laid[E any](list []E, bytesOf func(E) []byte) []byte {
	var b []byte
	for _, e := range list {
		b = append(b, bytesOf(e)...)
	}
	return b
}

func varint[N int | int64](x N) []byte { return pbuf.Varint(uint64(x)) }

func floatBytes(bits uint32) []byte { return wide(uint64(bits), width(api.Float)) }

func truthByte(truth bool) []byte {
	if truth {
		return []byte{1}
	}
	return []byte{0}
}

// wide is a number's bytes, the least one first.
func wide(x uint64, size int) []byte {
	b := make([]byte, size)
	for i := range b {
		b[i] = byte(x >> (8 * i))
	}
	return b
}
