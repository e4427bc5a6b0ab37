package onnx_test

import (
	"testing"

	"lattice/api"
	"lattice/onnx"
	"lattice/seeds"
)

// P7.4: files told here byte by byte.
func TestWrittenOut(t *testing.T) {
	file := func(graph ...byte) []byte {
		return joined([]byte{8, 8, 58, byte(len(graph))}, graph, []byte{66, 2, 16, 17})
	}
	attr := func(b ...byte) []byte {
		return file(joined([]byte{10, byte(5 + len(b)), 34, 1, 'A', 42, byte(len(b))}, b)...)
	}
	of := func(a api.Attr) api.Model {
		return api.Model{Opset: 17, Nodes: []api.Node{{Op: "A", Attrs: []api.Attr{a}}}}
	}
	for _, c := range []struct {
		m    api.Model
		want []byte
	}{
		{api.Model{Opset: 17}, file()},
		{api.Model{Opset: 17, Name: "gr"}, file(18, 2, 'g', 'r')},
		{api.Model{Opset: 17, Nodes: []api.Node{{Op: "A"}, {Op: "BC", Name: "n", In: []string{"x", "", "y"}, Out: []string{"", "z"}}}},
			file(10, 3, 34, 1, 'A', 10, 20, 10, 1, 'x', 10, 0, 10, 1, 'y', 18, 0, 18, 1, 'z', 26, 1, 'n', 34, 2, 'B', 'C')},
		{of(api.Attr{Kind: 1}), attr(21, 0, 0, 0, 0, 160, 1, 1)},
		{of(api.Attr{Kind: 1, Name: "a", F: 0x01020304}), attr(10, 1, 'a', 21, 4, 3, 2, 1, 160, 1, 1)},
		{of(api.Attr{Kind: 2}), attr(24, 0, 160, 1, 2)},
		{of(api.Attr{Kind: 2, I: 300}), attr(24, 172, 2, 160, 1, 2)},
		{of(api.Attr{Kind: 2, I: -1}), attr(24, 255, 255, 255, 255, 255, 255, 255, 255, 255, 1, 160, 1, 2)},
		{of(api.Attr{Kind: 3}), attr(34, 0, 160, 1, 3)},
		{of(api.Attr{Kind: 3, S: "\xff\x00"}), attr(34, 2, 255, 0, 160, 1, 3)},
		{of(api.Attr{Kind: 4, T: api.Tensor{Type: 9, B: []bool{true}}}), attr(42, 5, 16, 9, 74, 1, 1, 160, 1, 4)},
		{of(api.Attr{Kind: 4, T: api.Tensor{Type: 1, Dims: dims(0, 300)}}), attr(42, 9, 10, 3, 0, 172, 2, 16, 1, 74, 0, 160, 1, 4)},
		{of(api.Attr{Kind: 6}), attr(160, 1, 6)},
		{of(api.Attr{Kind: 6, Floats: floats(1, 0xFFFEFDFC)}), attr(58, 8, 1, 0, 0, 0, 0xFC, 0xFD, 0xFE, 0xFF, 160, 1, 6)},
		{of(api.Attr{Kind: 7, Name: "i"}), attr(10, 1, 'i', 160, 1, 7)},
		{of(api.Attr{Kind: 7, Ints: ints(0, 300, -2)}), attr(66, 13, 0, 172, 2, 254, 255, 255, 255, 255, 255, 255, 255, 255, 1, 160, 1, 7)},
		{api.Model{Opset: 17, Inits: []api.Init{{Name: "c", T: api.Tensor{Type: 7, Dims: dims(1, 2), I: ints(-2, 0x0102030405060708)}}}},
			file(42, 27, 10, 2, 1, 2, 16, 7, 66, 1, 'c', 74, 16, 254, 255, 255, 255, 255, 255, 255, 255, 8, 7, 6, 5, 4, 3, 2, 1)},
		{api.Model{Opset: 17, Inits: []api.Init{{T: api.Tensor{Type: 9, Dims: dims(3), B: []bool{true, false, true}}}, {T: api.Tensor{Type: 1, F: floats(0x3F800000)}}}},
			file(42, 10, 10, 1, 3, 16, 9, 74, 3, 1, 0, 1, 42, 8, 16, 1, 74, 4, 0, 0, 128, 63)},
		{api.Model{Opset: 17, Inputs: []api.Value{{Type: 7}, {Name: "x", Type: 9, Dims: dims(0, 300)}}},
			file(90, 8, 18, 6, 10, 4, 8, 7, 18, 0, 90, 20, 10, 1, 'x', 18, 15, 10, 13, 8, 9, 18, 9, 10, 2, 8, 0, 10, 3, 8, 172, 2)},
		{api.Model{Opset: 17, Name: "g", Outputs: []api.Value{{Type: 1}}, Inputs: []api.Value{{Type: 1}}, Nodes: []api.Node{{Op: "A"}}, Inits: []api.Init{{T: api.Tensor{Type: 9, Dims: dims(0)}}}},
			file(10, 3, 34, 1, 'A', 18, 1, 'g', 42, 7, 10, 1, 0, 16, 9, 74, 0, 90, 8, 18, 6, 10, 4, 8, 1, 18, 0, 98, 8, 18, 6, 10, 4, 8, 1, 18, 0)},
	} {
		wantBytes(t, c.m, c.want, api.OK)(onnx.Encode(c.m))
		wantBytes(t, "the other way to write", c.want, api.OK)(wantEncode(c.m), api.OK)
		wantModel(t, c.want, c.m, api.OK)(onnx.Decode(c.want))
	}
}

// P7.4: any models that may be written, and Check's error of those that may not.
func TestEncodeOfAny(t *testing.T) {
	s := seeds.Seed(51)
	for range 5000 {
		m := anyModel(&s)
		wantBytes(t, m, wantEncode(m), api.OK)(onnx.Encode(m))
	}
	for range 5000 {
		m := wildModel(&s)
		err := wantCheck(m)
		if err == api.OK {
			wantBytes(t, m, wantEncode(m), api.OK)(onnx.Encode(m))
			continue
		}
		wantBytes(t, m, nil, err)(onnx.Encode(m))
	}
}

// great is a model whose file has just so many bytes, a few more than MaxBytes less a text's.
func great(t *testing.T, size int) api.Model {
	t.Helper()
	texts := func(n int) []api.Attr { return many(n, api.Attr{Kind: 3, S: long(4096)}) }
	m := api.Model{Opset: 17, Nodes: append(many(15, api.Node{Op: "A", Attrs: texts(64)}), api.Node{Op: "A", Attrs: texts(61)})}
	last := &m.Nodes[15].Attrs[60].S
	*last = long(2000)
	rest := size - len(wantEncode(m))
	for rest > 2096 {
		m.Nodes[15].Attrs = append(m.Nodes[15].Attrs, api.Attr{Kind: 3, S: long(1000)})
		last = &m.Nodes[15].Attrs[len(m.Nodes[15].Attrs)-1].S
		rest = size - len(wantEncode(m))
	}
	*last = long(len(*last) + rest)
	if n := len(wantEncode(m)); n != size {
		t.Fatalf("%d bytes, not %d", n, size)
	}
	return m
}

// P7.4: a file of MaxBytes bytes is written, one of a byte more is not.
func TestEncodeMaxBytes(t *testing.T) {
	for _, size := range dims(api.MaxBytes-1, api.MaxBytes) {
		m := great(t, size)
		b, err := onnx.Encode(m)
		wantBytes(t, "just as long as may be", wantEncode(m), api.OK)(b, err)
		wantModel(t, "just as long as may be", m, api.OK)(onnx.Decode(b))
	}
	for _, size := range dims(api.MaxBytes+1, api.MaxBytes+2, api.MaxBytes+5, api.MaxBytes+20) {
		m := great(t, size)
		if err := onnx.Check(m); err != api.OK {
			t.Fatal(err)
		}
		wantBytes(t, "too long", nil, api.ErrLimit)(onnx.Encode(m))
	}
	// What is ahead of the last field may fill the file by itself.
	m := great(t, api.MaxBytes)
	m.Nodes = append(m.Nodes, api.Node{Op: "A"})
	wantBytes(t, "a node more", nil, api.ErrLimit)(onnx.Encode(m))
	m = great(t, api.MaxBytes)
	m.Name = "n"
	wantBytes(t, "a name more", nil, api.ErrLimit)(onnx.Encode(m))
	m = great(t, api.MaxBytes)
	m.Outputs = []api.Value{{Type: 1}}
	wantBytes(t, "an output more", nil, api.ErrLimit)(onnx.Encode(m))
}

// P7.4: models that are far too long, though each part of them may be; no more of them is worked out than is needed.
func TestEncodeFarTooLong(t *testing.T) {
	list := many(api.MaxElems, int64(-1))
	node := api.Node{Op: "A", Attrs: many(api.MaxIn, api.Attr{Kind: 7, Ints: list})}
	wantBytes(t, "nodes", nil, api.ErrLimit)(onnx.Encode(api.Model{Opset: 17, Nodes: many(api.MaxNodes, node)}))
	init := api.Init{T: api.Tensor{Type: 7, Dims: dims(api.MaxElems), I: list}}
	wantBytes(t, "constants", nil, api.ErrLimit)(onnx.Encode(api.Model{Opset: 17, Inits: many(api.MaxNodes, init)}))
	names := api.Node{Op: "A", In: many(api.MaxIn, long(256))}
	wantBytes(t, "names", nil, api.ErrLimit)(onnx.Encode(api.Model{Opset: 17, Nodes: many(api.MaxNodes, names)}))
	wantBytes(t, "what may not be comes first", nil, api.ErrArg)(onnx.Encode(api.Model{Opset: 17, Nodes: many(api.MaxNodes, node), Outputs: make([]api.Value, 1)}))
	wantBytes(t, "many nodes", nil, api.ErrLimit)(onnx.Encode(api.Model{Opset: 17, Nodes: many(1<<20, api.Node{Op: "A"})}))
}
