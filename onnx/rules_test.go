package onnx_test

import (
	"bytes"
	"fmt"
	"slices"
	"strings"
	"testing"

	"lattice/api"
	"lattice/onnx"
	"lattice/seeds"
)

// spoil writes over all that a list has, its room too.
func spoil[E any](list []E, with E) {
	full := list[:cap(list)]
	for i := range full {
		full[i] = with
	}
}

// spoilers write over the lists of a model, each over one of them, those within ahead of those that hold them.
func spoilers(m api.Model) []func() {
	var all []func()
	add := func(f func()) { all = append(all, f) }
	tensor := func(t api.Tensor) {
		add(func() { spoil(t.Dims, 77) })
		add(func() { spoil(t.F, 77) })
		add(func() { spoil(t.I, 77) })
		add(func() { spoil(t.B, true) })
	}
	for _, n := range m.Nodes {
		for _, a := range n.Attrs {
			tensor(a.T)
			add(func() { spoil(a.Floats, 77) })
			add(func() { spoil(a.Ints, 77) })
		}
		add(func() { spoil(n.In, "spoilt") })
		add(func() { spoil(n.Out, "spoilt") })
		add(func() { spoil(n.Attrs, api.Attr{Name: "spoilt"}) })
	}
	for _, i := range m.Inits {
		tensor(i.T)
	}
	for _, v := range joined(m.Inputs, m.Outputs) {
		add(func() { spoil(v.Dims, 77) })
	}
	add(func() { spoil(m.Nodes, api.Node{Op: "spoilt"}) })
	add(func() { spoil(m.Inits, api.Init{Name: "spoilt"}) })
	add(func() { spoil(m.Inputs, api.Value{Name: "spoilt"}) })
	add(func() { spoil(m.Outputs, api.Value{Name: "spoilt"}) })
	return all
}

// fullModel has something in each list.
func fullModel() api.Model {
	bools := func() api.Tensor {
		return api.Tensor{Type: api.Bool, Dims: dims(3), B: []bool{false, true, false}}
	}
	single := func() api.Tensor { return api.Tensor{Type: api.Float, Dims: dims(1, 2), F: floats(3, 4)} }
	whole := func() api.Tensor { return api.Tensor{Type: api.Int, Dims: dims(2, 1), I: ints(5, 6)} }
	attrs := func() []api.Attr {
		return []api.Attr{{Kind: 4, T: bools()}, {Kind: 4, T: single()}, {Kind: 4, T: whole()}, {Kind: 6, Floats: floats(1, 2)}, {Kind: 7, Ints: ints(1, 2)}, {Kind: 3, S: "s"}, {Kind: 6}, {Kind: 7}}
	}
	node := func() api.Node {
		return api.Node{Op: "A", Name: "n", In: []string{"x", "y"}, Out: []string{"z"}, Attrs: attrs()}
	}
	value := func() api.Value { return api.Value{Name: "v", Type: api.Int, Dims: dims(2, 3)} }
	return api.Model{Opset: 17, Name: "g", Nodes: []api.Node{node(), node()}, Inits: []api.Init{{Name: "c", T: bools()}, {T: single()}, {T: whole()}, {T: whole()}},
		Inputs: []api.Value{value(), value()}, Outputs: []api.Value{value(), value()}}
}

// R3: what Decode answers shares no memory with the file, nor do two of its lists with each other.
func TestDecodeNewMemory(t *testing.T) {
	s := seeds.Seed(61)
	for turn := range 20 {
		want := fullModel()
		b := wantEncode(want)
		if turn > 0 {
			b = looseFile(&s, want)
		}
		handed := slices.Clone(b)
		m, err := onnx.Decode(b)
		wantModel(t, "a full model", want, api.OK)(m, err)
		for i := range spoilers(m) {
			got, _ := onnx.Decode(b)
			copied := plain(got)
			spoilers(got)[i]()
			spoilers(copied)[i]()
			if !alike(got, copied) {
				t.Errorf("list %d shares memory: %s, want %s", i, short(got), short(copied))
			}
			if !bytes.Equal(b, handed) {
				t.Fatalf("list %d is the file's", i)
			}
		}
		spoil(b, 7)
		wantModel(t, "a full model whose file is gone", want, api.OK)(m, err)
	}
}

// R3: what Encode answers shares no memory with the model, nor with another answer.
func TestEncodeNewMemory(t *testing.T) {
	m := fullModel()
	want := wantEncode(m)
	first, _ := onnx.Encode(m)
	again, _ := onnx.Encode(m)
	spoil(first, 7)
	wantBytes(t, "another answer", want, api.OK)(again, api.OK)
	wantModel(t, "the model that was handed in", fullModel(), api.OK)(m, api.OK)
	wantBytes(t, "Encode once more", want, api.OK)(onnx.Encode(m))
	for _, f := range spoilers(m) {
		f()
	}
	wantBytes(t, "an answer whose model is gone", want, api.OK)(again, api.OK)
}

// roomy is a list with room behind it that holds more.
func roomy[E any](list []E, behind ...E) []E { return slices.Concat(list, behind)[:len(list)] }

// withRoom is a model whose lists have room that holds what may not be.
func withRoom(m api.Model) api.Model {
	m = plain(m)
	tensor := func(t *api.Tensor) {
		t.Dims, t.F, t.I, t.B = roomy(t.Dims, -1, -1), roomy(t.F, 9), roomy(t.I, 9), roomy(t.B, true)
	}
	for i := range m.Nodes {
		n := &m.Nodes[i]
		for j := range n.Attrs {
			a := &n.Attrs[j]
			tensor(&a.T)
			a.Floats, a.Ints = roomy(a.Floats, 9), roomy(a.Ints, 9)
		}
		n.In, n.Out, n.Attrs = roomy(n.In, long(300)), roomy(n.Out, long(300)), roomy(n.Attrs, api.Attr{Kind: 5})
	}
	for i := range m.Inits {
		tensor(&m.Inits[i].T)
	}
	for i := range m.Inputs {
		m.Inputs[i].Dims = roomy(m.Inputs[i].Dims, -1)
	}
	for i := range m.Outputs {
		m.Outputs[i].Dims = roomy(m.Outputs[i].Dims, -1)
	}
	m.Nodes, m.Inits, m.Inputs, m.Outputs = roomy(m.Nodes, api.Node{}), roomy(m.Inits, api.Init{}), roomy(m.Inputs, api.Value{}), roomy(m.Outputs, api.Value{})
	return m
}

// snapshot tells all that a model's lists hold, with what they have room for.
func snapshot(m api.Model) string {
	var b strings.Builder
	tell := func(list any) { fmt.Fprintf(&b, "%q ", list) }
	tensor := func(t api.Tensor) {
		tell(t.Dims[:cap(t.Dims)])
		tell(t.F[:cap(t.F)])
		tell(t.I[:cap(t.I)])
		tell(t.B[:cap(t.B)])
	}
	for _, n := range m.Nodes[:cap(m.Nodes)] {
		tell(n)
		tell(n.In[:cap(n.In)])
		tell(n.Out[:cap(n.Out)])
		for _, a := range n.Attrs[:cap(n.Attrs)] {
			tell(a)
			tensor(a.T)
			tell(a.Floats[:cap(a.Floats)])
			tell(a.Ints[:cap(a.Ints)])
		}
	}
	for _, i := range m.Inits[:cap(m.Inits)] {
		tell(i)
		tensor(i.T)
	}
	for _, v := range joined(m.Inputs[:cap(m.Inputs)], m.Outputs[:cap(m.Outputs)]) {
		tell(v)
		tell(v.Dims[:cap(v.Dims)])
	}
	return b.String()
}

// R3: no answer hangs on what a list has room for, and neither that nor what is handed in is changed.
func TestRoom(t *testing.T) {
	s := seeds.Seed(62)
	for range 300 {
		m := anyModel(&s)
		room := withRoom(m)
		before := snapshot(room)
		if err := onnx.Check(room); err != api.OK {
			t.Errorf("Check with room: %v", err)
		}
		b, err := onnx.Encode(room)
		wantBytes(t, "Encode with room", wantEncode(m), api.OK)(b, err)
		if snapshot(room) != before {
			t.Fatalf("%s became %s", before, snapshot(room))
		}
		// What stands behind a file is none of it.
		behind := roomy(b, bytesOf(number(2, 0), message(8, number(2, 16)), such(0))...)
		kept := slices.Clone(behind[:cap(behind)])
		wantModel(t, "Decode with room", m, api.OK)(onnx.Decode(behind))
		if !bytes.Equal(kept, behind[:cap(behind)]) {
			t.Fatal("the room of a file changed")
		}
		cut := behind[:s.Below(len(b))]
		want, wantErr := wantDecode(slices.Clone(cut))
		wantModel(t, "Decode of a part", want, wantErr)(onnx.Decode(cut))
	}
	wantModel(t, "Decode with much room", api.Model{Opset: 17}, api.OK)(onnx.Decode(roomy([]byte{58, 0, 66, 2, 16, 17}, make([]byte, api.MaxBytes)...)))
	if n, err := onnx.Count(roomy(dims(2, 3), -1, 5000, 1, 1, 1, 1, 1)); n != 6 || err != api.OK {
		t.Errorf("Count with room: %d, %v", n, err)
	}
}

// R1, R3, R4: whatever is handed in, each call ends without a panic, changes nothing of it, and answers zero values beside an error.
func TestAnyArguments(t *testing.T) {
	s := seeds.Seed(63)
	for range 20000 {
		b := make([]byte, s.Below(1+s.Below(60)))
		for i := range b {
			b[i] = byte(pick(&s, s.Next(), s.Next()%32, s.Next()%4, 58, 66, 10, 18))
		}
		handed := slices.Clone(b)
		want, wantErr := wantDecode(b)
		wantModel(t, b, want, wantErr)(onnx.Decode(b))
		if !bytes.Equal(b, handed) {
			t.Fatalf("%v became %v", handed, b)
		}
	}
	for range 3000 {
		m := wildModel(&s)
		before := plain(m)
		err := onnx.Check(m)
		written, writtenErr := onnx.Encode(m)
		if writtenErr != err || err != api.OK && len(written) > 0 {
			t.Fatalf("Check %v; Encode %v, %d bytes", err, writtenErr, len(written))
		}
		if !alike(before, m) {
			t.Fatalf("%s became %s", short(before), short(m))
		}
	}
}

// R1, P1: nothing at all, and lists that are far too long.
func TestNothingHandedIn(t *testing.T) {
	for _, b := range [][]byte{nil, {}} {
		wantModel(t, "no bytes", api.Model{}, api.ErrMalformed)(onnx.Decode(b))
	}
	if err := onnx.Check(api.Model{}); err != api.ErrArg {
		t.Errorf("Check of a zero model: %v", err)
	}
	wantBytes(t, "a zero model", nil, api.ErrArg)(onnx.Encode(api.Model{}))
	for _, d := range [][]int{nil, {}} {
		wantCounted(t, d, 1, api.OK)
	}
	wantCounted(t, many(1<<20, 1), 0, api.ErrLimit)
	wantCounted(t, append(many(1<<20, 1<<62), -1), 0, api.ErrArg)
	great := api.Model{Opset: 17, Inputs: []api.Value{{Type: 1, Dims: many(1<<20, 3)}}, Inits: []api.Init{{T: api.Tensor{Type: 1, F: make([]uint32, 1<<20)}}}}
	if err := onnx.Check(great); err != api.ErrArg {
		t.Errorf("Check of a great one: %v", err)
	}
	great.Inits[0].T.Dims = dims(1 << 20)
	if err := onnx.Check(great); err != api.ErrLimit {
		t.Errorf("Check of a great one: %v", err)
	}
}

// What is answered is the same each time.
func TestSameEachTime(t *testing.T) {
	s := seeds.Seed(64)
	for range 200 {
		m := anyModel(&s)
		b := looseFile(&s, m)
		first, err := onnx.Decode(b)
		wantModel(t, b, first, err)(onnx.Decode(b))
		file, err := onnx.Encode(first)
		wantBytes(t, m, file, err)(onnx.Encode(first))
	}
}
