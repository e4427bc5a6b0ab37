package onnx_test

import (
	"testing"

	"lattice/api"
	"lattice/onnx"
)

// The chapter's first example.
func TestExampleFile(t *testing.T) {
	m := api.Model{Opset: 17, Outputs: []api.Value{{Name: "y", Type: api.Float, Dims: dims(2)}}}
	b := []byte{8, 8, 58, 17, 98, 15, 10, 1, 121, 18, 10, 10, 8, 8, 1, 18, 4, 10, 2, 8, 2, 66, 2, 16, 17}
	wantBytes(t, "Encode of the example", b, api.OK)(onnx.Encode(m))
	wantModel(t, "Decode of the example", m, api.OK)(onnx.Decode(b))
}

// The chapter's second example.
func TestExampleFewBytes(t *testing.T) {
	wantModel(t, "Decode of no bytes", api.Model{}, api.ErrMalformed)(onnx.Decode(nil))
	wantModel(t, "Decode of 58 0", api.Model{}, api.ErrUnsupported)(onnx.Decode([]byte{58, 0}))
	wantModel(t, "Decode of 58 0 66 2 16 17", api.Model{Opset: 17}, api.OK)(onnx.Decode([]byte{58, 0, 66, 2, 16, 17}))
}

// The chapter's third example.
func TestExampleCount(t *testing.T) {
	for _, c := range []struct {
		dims []int
		want int
		err  api.Errno
	}{{dims(2, 3), 6, api.OK}, {nil, 1, api.OK}, {dims(4097), 0, api.ErrLimit}, {dims(0, -1), 0, api.ErrArg}, {dims(0, 5000), 0, api.OK}} {
		if n, err := onnx.Count(c.dims); n != c.want || err != c.err {
			t.Errorf("Count %v: %d, %v; want %d, %v", c.dims, n, err, c.want, c.err)
		}
	}
}

// A right file, which the other tests edit, and which their other way to read takes, too.
func TestRightFile(t *testing.T) {
	b := edits{}.file()
	wantModel(t, "Decode of the right file", rightModel(), api.OK)(onnx.Decode(b))
	wantModel(t, "the other way to read it", rightModel(), api.OK)(wantDecode(b))
}
