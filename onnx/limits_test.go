package onnx_test

import (
	"bytes"
	"testing"

	"lattice/api"
	"lattice/onnx"
)

// repeated has a field so many times in all, the first of them as they are.
func repeated(num, times int, one part) edit {
	return func(l []part) []part {
		have := 0
		for _, p := range l {
			if p.num == num {
				have++
			}
		}
		return joined(l, many(times-have, one))
	}
}

// Each limit of the table, and one more.
func TestLimits(t *testing.T) {
	value := func(num int) part { return message(num, message(2, message(1, number(1, 1), message(2)))) }
	attr := message(5, number(20, 1))
	for _, c := range []struct {
		name, place string
		edit        func(n int) edit
		most        int
	}{
		{"nodes", "graph", func(n int) edit { return repeated(1, n, message(1, text(4, "A"))) }, 1024},
		{"constants", "graph", func(n int) edit { return repeated(5, n, message(5, number(2, 9), data(9, 1))) }, 1024},
		{"inputs", "graph", func(n int) edit { return repeated(11, n, value(11)) }, 64},
		{"outputs", "graph", func(n int) edit { return repeated(12, n, value(12)) }, 64},
		{"a graph's name", "graph", func(n int) edit { return instead(2, text(2, long(n))) }, 256},
		{"a node's inputs", "node", func(n int) edit { return repeated(1, n, text(1, "")) }, 64},
		{"a node's outputs", "node", func(n int) edit { return repeated(2, n, text(2, "z")) }, 64},
		{"a node's attributes", "node", func(n int) edit { return repeated(5, n, attr) }, 64},
		{"an input's name", "node", func(n int) edit { return with(text(1, long(n)), text(1, "")) }, 256},
		{"an input's name ahead", "node", func(n int) edit { return ahead(text(1, long(n))) }, 256},
		{"an output's name", "node", func(n int) edit { return with(text(2, long(n)), text(2, "")) }, 256},
		{"a node's name", "node", func(n int) edit { return instead(3, text(3, long(n))) }, 256},
		{"an operator", "node", func(n int) edit { return instead(4, text(4, long(n))) }, 256},
		{"an attribute's name", "attribute", func(n int) edit { return instead(1, text(1, long(n))) }, 256},
		{"a text", "attribute", func(n int) edit { return with(text(4, long(n)), number(20, 3)) }, 4096},
		{"a text that does not count", "attribute", func(n int) edit { return with(text(4, long(n))) }, 4096},
		{"floats", "attribute", func(n int) edit { return with(fixed(7, many(n, uint32(5))...), number(20, 6)) }, 4096},
		{"floats one by one", "attribute", func(n int) edit { return both(repeated(7, n, four(7, 5)), with(number(20, 6))) }, 4096},
		{"floats that do not count", "attribute", func(n int) edit { return with(fixed(7, many(n, uint32(5))...)) }, 4096},
		{"numbers", "attribute", func(n int) edit { return with(packed(8, many(n, int64(-5))...), number(20, 7)) }, 4096},
		{"numbers one by one", "attribute", func(n int) edit { return both(repeated(8, n, number(8, 5)), with(number(20, 7))) }, 4096},
		{"numbers that do not count", "attribute", func(n int) edit { return with(packed(8, many(n, int64(-5))...)) }, 4096},
		{"a constant's name", "constant", func(n int) edit { return instead(8, text(8, long(n))) }, 256},
		{"the name of an attribute's tensor", "attributeTensor", func(n int) edit { return instead(8, text(8, long(n))) }, 256},
		{"a constant's dims", "constant", func(n int) edit { return repeated(1, n, number(1, 1)) }, 8},
		{"dims of an attribute's tensor", "attributeTensor", func(n int) edit { return repeated(1, n, number(1, 1)) }, 8},
		{"packed dims", "constant", func(n int) edit { return instead(1, packed(1, append(many(n-1, int64(1)), 2)...)) }, 8},
		{"elements", "constant", func(n int) edit {
			return only(number(1, int64(n)), number(2, 9), data(9, make([]byte, n)...))
		}, 4096},
		{"an input's name", "input", func(n int) edit { return instead(1, text(1, long(n))) }, 256},
		{"an output's name", "output", func(n int) edit { return instead(1, text(1, long(n))) }, 256},
		{"a value's dims", "shape", func(n int) edit { return repeated(1, n, message(1, number(1, 1))) }, 8},
		{"a value's dims of 0", "shape", func(n int) edit { return repeated(1, n, message(1, number(1, 0))) }, 8},
		{"a value's elements", "shape", func(n int) edit { return only(message(1, number(1, int64(n)))) }, 4096},
		{"a value's elements by two dims", "shape", func(n int) edit { return only(message(1, number(1, int64(n))), message(1, number(1, 64))) }, 64},
	} {
		for n := c.most - 2; n <= c.most+2; n++ {
			if n > c.most {
				try{c.place, c.edit(n), api.ErrLimit, nil}.run(t, c.name)
				continue
			}
			b := edits{c.place: c.edit(n)}.file()
			want, err := wantDecode(b)
			if err != api.OK {
				t.Fatal(c.name, n, err)
			}
			wantModel(t, c.name, want, api.OK)(onnx.Decode(b))
		}
	}
}

// Dims that are far too great come to no small count by going round.
func TestDimsOfValues(t *testing.T) {
	shape := func(list ...int64) edit {
		var l []part
		for _, d := range list {
			l = append(l, message(1, number(1, d)))
		}
		return only(l...)
	}
	for _, list := range [][]int64{{1 << 32, 1 << 32}, {1 << 62, 4}, {1<<63 - 1, 2}, {1 << 61, 8, 3}, {4097}, {2, 2049}} {
		try{"shape", shape(list...), api.ErrLimit, nil}.run(t, short(list))
		try{"shape", shape(append(list, 0)...), api.OK, func(m *api.Model) {
			m.Outputs[0].Dims = nil
			for _, d := range append(list, 0) {
				m.Outputs[0].Dims = append(m.Outputs[0].Dims, int(d))
			}
		}}.run(t, short(list)+" and 0")
		try{"shape", shape(append(list, -1)...), api.ErrMalformed, nil}.run(t, short(list)+" and -1")
		try{"shape", both(shape(list...), with(data(1))), api.ErrUnsupported, nil}.run(t, short(list)+" and none")
	}
	try{"shape", shape(append(many(20, int64(1)), -1)...), api.ErrMalformed, nil}.run(t, "many")
	try{"shape", shape(append(ints(-1), many(20, int64(1))...)...), api.ErrMalformed, nil}.run(t, "many")
}

// P7.1: a file at MaxBytes is read, one that has a byte more is not, whatever else it is.
func TestBytesOfAFile(t *testing.T) {
	padded := func(e edits, size int) []byte {
		b := e.file()
		more := bytesOf(text(1000, long(size-len(b)-6)))
		if len(b)+len(more) != size {
			t.Fatal(len(b), len(more), size)
		}
		return joined(more, b)
	}
	for _, c := range []struct {
		e    edits
		want api.Model
		err  api.Errno
	}{
		{edits{}, rightModel(), api.OK},
		{edits{"model": without(7)}, api.Model{}, api.ErrMalformed},
		{edits{"model": without(8)}, api.Model{}, api.ErrUnsupported},
		{edits{"graph": with(text(2, long(257)))}, api.Model{}, api.ErrLimit},
	} {
		wantModel(t, "a file of MaxBytes bytes", c.want, c.err)(onnx.Decode(padded(c.e, api.MaxBytes)))
		wantModel(t, "a file of a byte less", c.want, c.err)(onnx.Decode(padded(c.e, api.MaxBytes-1)))
		wantModel(t, "a file of a byte more", api.Model{}, api.ErrLimit)(onnx.Decode(padded(c.e, api.MaxBytes+1)))
		wantModel(t, "a file of far more", api.Model{}, api.ErrLimit)(onnx.Decode(padded(c.e, 2*api.MaxBytes)))
	}
	wantModel(t, "noughts", api.Model{}, api.ErrMalformed)(onnx.Decode(make([]byte, api.MaxBytes)))
	wantModel(t, "one nought more", api.Model{}, api.ErrLimit)(onnx.Decode(make([]byte, api.MaxBytes+1)))
}

// Files full of one thing, as many as there is room for.
func TestFullFiles(t *testing.T) {
	fill := func(one part) []part {
		b := bytesOf(one)
		return parts(such(bytes.Repeat(b, (api.MaxBytes-400)/len(b))...))
	}
	set := message(8, number(2, 17))
	for _, c := range []struct {
		name string
		b    []byte
		err  api.Errno
	}{
		{"nodes without anything", bytesOf(message(7, fill(data(1))...), set), api.ErrMalformed},
		{"nodes", bytesOf(message(7, fill(message(1, text(4, "A")))...), set), api.ErrLimit},
		{"nodes, and one that is strange", bytesOf(message(7, append(fill(message(1, text(4, "A"))), message(1, text(4, "A"), text(7, "b")))...), set), api.ErrUnsupported},
		{"nodes, and one that is malformed", bytesOf(message(7, append(fill(message(1, text(4, "A"))), data(1))...), set), api.ErrMalformed},
		{"graphs", bytesOf(append(fill(data(7)), set)...), api.OK},
		{"sets", bytesOf(append(fill(set), data(7))...), api.OK},
		{"sets, and one of another version", bytesOf(append(fill(set), data(7), message(8, number(2, 16)))...), api.ErrUnsupported},
		{"inputs", bytesOf(message(7, fill(message(11, message(2, message(1, number(1, 1), message(2)))))...), set), api.ErrLimit},
		{"dims", bytesOf(message(7, message(11, message(2, message(1, number(1, 1), message(2, fill(message(1, number(1, 1)))...))))), set), api.ErrLimit},
		{"dims of a tensor", bytesOf(message(7, message(5, append(fill(number(1, 1)), number(2, 9), data(9, 1))...)), set), api.ErrLimit},
		{"attributes", bytesOf(message(7, message(1, append(fill(message(5, number(20, 1))), text(4, "A"))...)), set), api.ErrLimit},
		{"numbers", bytesOf(message(7, message(1, text(4, "A"), message(5, append(fill(number(8, 1)), number(20, 7))...))), set), api.ErrLimit},
		{"raw twice and more", bytesOf(message(7, message(5, append(fill(data(9, 0)), number(2, 9))...)), set), api.OK},
	} {
		if len(c.b) > api.MaxBytes {
			t.Fatal(c.name, len(c.b))
		}
		m, err := onnx.Decode(c.b)
		if err != c.err || err != api.OK && !alike(m, api.Model{}) {
			t.Errorf("%s: %v, want %v", c.name, err, c.err)
		}
	}
}
