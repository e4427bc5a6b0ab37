package onnx_test

import (
	"testing"

	"lattice/api"
	"lattice/onnx"
	"lattice/seeds"
)

// P7.5: Decode of Encode is the model.
func TestDecodeOfEncode(t *testing.T) {
	s := seeds.Seed(31)
	for range 5000 {
		m := anyModel(&s)
		b, err := onnx.Encode(m)
		if err != api.OK {
			t.Fatalf("Encode %s: %v", short(m), err)
		}
		wantModel(t, m, m, api.OK)(onnx.Decode(b))
	}
}

// P7.5: files that say a model in other forms say the same model; Check takes it, and Encode of it says it once more.
func TestLooseFiles(t *testing.T) {
	s := seeds.Seed(32)
	for range 5000 {
		m := anyModel(&s)
		b := looseFile(&s, m)
		got, err := onnx.Decode(b)
		wantModel(t, b, m, api.OK)(got, err)
		if err := onnx.Check(got); err != api.OK {
			t.Errorf("Check of Decode %s: %v", short(b), err)
		}
		wantBytes(t, got, wantEncode(m), api.OK)(onnx.Encode(got))
	}
}

// Files that may be anything are read as the chapter's table has it; whatever Decode answers Check takes.
func TestAnyFiles(t *testing.T) {
	s := seeds.Seed(33)
	seen := map[api.Errno]int{}
	for range 40000 {
		m := anyModel(&s)
		b := wantEncode(m)
		if s.Below(3) == 0 {
			b = looseFile(&s, m)
		}
		for range 1 + s.Below(3) {
			b = spoiled(&s, "model", b)
		}
		want, wantErr := wantDecode(b)
		got, err := onnx.Decode(b)
		seen[err]++
		wantModel(t, b, want, wantErr)(got, err)
		if err == api.OK && onnx.Check(got) != api.OK {
			t.Errorf("Check of Decode %s: %v", short(b), onnx.Check(got))
		}
		if t.Failed() {
			return
		}
	}
	for _, err := range []api.Errno{api.OK, api.ErrMalformed, api.ErrUnsupported, api.ErrLimit} {
		if seen[err] < 500 {
			t.Errorf("%v only %d times", err, seen[err])
		}
	}
}

// P7.5: a single message is split into two fields at each byte, with others between.
func TestSplitAtEachByte(t *testing.T) {
	halves := func(num, at int) edit {
		return func(l []part) []part {
			var out []part
			for _, p := range l {
				if p.num != num {
					out = append(out, p)
					continue
				}
				out = append(out, data(num, p.data[:at]...), four(99, 7), data(num, p.data[at:]...))
			}
			return out
		}
	}
	size := func(place string, num int) int {
		n := 0
		edits{place: func(l []part) []part {
			for _, p := range l {
				if p.num == num {
					n = len(p.data)
				}
			}
			return l
		}}.file()
		return n
	}
	for _, c := range []struct {
		place string
		num   int
	}{{"model", 7}, {"output", 2}, {"input", 2}, {"sort", 1}, {"typed", 2}} {
		n := size(c.place, c.num)
		if n < 1 {
			t.Fatal(c.place, n)
		}
		for at := range n + 1 {
			try{c.place, halves(c.num, at), api.OK, nil}.run(t, "split")
		}
	}
	tensor := bytesOf(packed(1, 2), number(2, 7), whole(9, 5, -7))
	for at := range len(tensor) + 1 {
		try{"attribute", only(text(1, "a"), data(5, tensor[:at]...), number(20, 4), data(5, tensor[at:]...)), api.OK, func(m *api.Model) {
			*firstAttr(m) = api.Attr{Name: "a", Kind: 4, T: api.Tensor{Type: api.Int, Dims: dims(2), I: ints(5, -7)}}
		}}.run(t, "split")
	}
}

// P7.5: fields of unlike numbers change places, in each message and in all of them.
func TestBackwards(t *testing.T) {
	all := edits{}
	for _, place := range places {
		try{place, backwards, api.OK, nil}.run(t, "backwards")
		all = all.add(place, backwards)
	}
	wantModel(t, "all backwards", rightModel(), api.OK)(onnx.Decode(all.file()))
}
