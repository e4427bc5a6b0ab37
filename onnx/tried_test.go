package onnx_test

import (
	"encoding/binary"
	"fmt"
	"reflect"
	"slices"
	"strings"
	"testing"

	"lattice/api"
)

// This file holds what the tests try: files put together field by field, without the packages that read and write them.

// part is a field, or (wire is asSuch) bytes that stand as they are.
type part struct {
	num, wire int
	x         uint64
	data      []byte
}

const asSuch = -1

func number(num int, x int64) part       { return part{num: num, wire: 0, x: uint64(x)} }
func eight(num int, x uint64) part       { return part{num: num, wire: 1, x: x} }
func four(num int, x uint32) part        { return part{num: num, wire: 5, x: uint64(x)} }
func text(num int, s string) part        { return part{num: num, wire: 2, data: []byte(s)} }
func data(num int, b ...byte) part       { return part{num: num, wire: 2, data: b} }
func message(num int, l ...part) part    { return part{num: num, wire: 2, data: bytesOf(l...)} }
func such(b ...byte) part                { return part{wire: asSuch, data: b} }
func parts(l ...part) []part             { return l }
func varint(x uint64) []byte             { return binary.AppendUvarint(nil, x) }
func long(n int) string                  { return strings.Repeat("n", n) }
func ints(list ...int64) []int64         { return list }
func dims(list ...int) []int             { return list }
func floats(list ...uint32) []uint32     { return list }
func packed(num int, list ...int64) part { return data(num, varints(list)...) }
func fixed(num int, list ...uint32) part { return data(num, fours(list)...) }
func whole(num int, list ...int64) part  { return data(num, eights(list)...) }
func many[E any](n int, e E) []E         { return slices.Repeat([]E{e}, n) }
func joined[E any](lists ...[]E) []E     { return slices.Concat(lists...) }

func varints(list []int64) []byte {
	var b []byte
	for _, x := range list {
		b = binary.AppendUvarint(b, uint64(x))
	}
	return b
}

func fours(list []uint32) []byte {
	var b []byte
	for _, x := range list {
		b = binary.LittleEndian.AppendUint32(b, x)
	}
	return b
}

func eights(list []int64) []byte {
	var b []byte
	for _, x := range list {
		b = binary.LittleEndian.AppendUint64(b, uint64(x))
	}
	return b
}

// bytesOf is the message of some parts.
func bytesOf(l ...part) []byte {
	var b []byte
	for _, p := range l {
		if p.wire == asSuch {
			b = append(b, p.data...)
			continue
		}
		b = binary.AppendUvarint(b, uint64(p.num)*8+uint64(p.wire))
		switch p.wire {
		case 0:
			b = binary.AppendUvarint(b, p.x)
		case 1:
			b = binary.LittleEndian.AppendUint64(b, p.x)
		case 2:
			b = append(binary.AppendUvarint(b, uint64(len(p.data))), p.data...)
		case 5:
			b = binary.LittleEndian.AppendUint32(b, uint32(p.x))
		}
	}
	return b
}

// edit is what is made of a message's parts.
type edit func([]part) []part

func with(more ...part) edit  { return func(l []part) []part { return joined(l, more) } }
func ahead(more ...part) edit { return func(l []part) []part { return joined(more, l) } }
func only(l ...part) edit     { return func([]part) []part { return l } }

func without(num int) edit {
	return func(l []part) []part {
		return slices.DeleteFunc(slices.Clone(l), func(p part) bool { return p.num == num })
	}
}

// instead has other parts where the first one of a number stood.
func instead(num int, more ...part) edit {
	return func(l []part) []part {
		i := slices.IndexFunc(l, func(p part) bool { return p.num == num })
		if i < 0 {
			panic(fmt.Sprint("no field ", num))
		}
		rest := without(num)(l[i:])
		return joined(l[:i], more, rest)
	}
}

// both is the one and then the other.
func both(first, then edit) edit { return func(l []part) []part { return then(first(l)) } }

// backwards has fields of unlike numbers the other way round, those of one number still in order.
func backwards(l []part) []part {
	l = slices.Clone(l)
	slices.SortStableFunc(l, func(a, b part) int { return b.num - a.num })
	return l
}

// edits are what is made of a right file, message by message.
type edits map[string]edit

// add is the edits with one more.
func (e edits) add(place string, with edit) edits {
	more := edits{}
	for p, f := range e {
		more[p] = f
	}
	if old, is := more[place]; is {
		with = both(old, with)
	}
	more[place] = with
	return more
}

// places are the messages of a right file that may be edited.
var places = strings.Fields("model set graph node attribute attributeTensor constant input output sort typed shape dim")

func (e edits) at(place string, l ...part) []part {
	if !slices.Contains(places, place) {
		panic(place)
	}
	if f, is := e[place]; is {
		return f(l)
	}
	return l
}

// file is a right file with its edits; the last five places are within its output.
func (e edits) file() []byte {
	shape := e.at("shape", message(1, e.at("dim", number(1, 2))...), message(1, number(1, 3)))
	typed := e.at("typed", number(1, 1), message(2, shape...))
	output := e.at("output", text(1, "y"), message(2, e.at("sort", message(1, typed...))...))
	input := e.at("input", text(1, "x"), message(2, message(1, number(1, 7), message(2))))
	constant := e.at("constant", packed(1, 2), number(2, 7), text(8, "c"), whole(9, 5, -7))
	tensor := e.at("attributeTensor", packed(1, 2), number(2, 7), text(8, "unseen"), whole(9, 5, -7))
	attribute := e.at("attribute", text(1, "a"), number(3, 9), number(20, 2))
	node := e.at("node", text(1, "x"), text(1, "c"), text(2, "t"), text(3, "first"), text(4, "Foo"),
		message(5, attribute...), message(5, text(1, "b"), message(5, tensor...), number(20, 4)), text(7, "ai.onnx"))
	graph := e.at("graph", message(1, node...), message(1, text(4, "Bar"), text(2, "y")), text(2, "g"),
		message(5, constant...), message(11, input...), message(12, output...))
	sets := parts(message(8, text(1, "other"), number(2, 3)), message(8, e.at("set", text(1, "ai.onnx"), number(2, 17))...))
	return bytesOf(e.at("model", joined(parts(number(1, 8), message(7, graph...)), sets)...)...)
}

// rightModel is what a right file without edits says.
func rightModel() api.Model {
	two := func() api.Tensor { return api.Tensor{Type: api.Int, Dims: dims(2), I: ints(5, -7)} }
	return api.Model{
		Opset: 17,
		Name:  "g",
		Nodes: []api.Node{
			{Op: "Foo", Name: "first", In: []string{"x", "c"}, Out: []string{"t"}, Attrs: []api.Attr{{Name: "a", Kind: api.AttrInt, I: 9}, {Name: "b", Kind: api.AttrTensor, T: two()}}},
			{Op: "Bar", Out: []string{"y"}},
		},
		Inits:   []api.Init{{Name: "c", T: two()}},
		Inputs:  []api.Value{{Name: "x", Type: api.Int}},
		Outputs: []api.Value{{Name: "y", Type: api.Float, Dims: dims(2, 3)}},
	}
}

// changed is the right model after a change.
func changed(change func(*api.Model)) api.Model {
	m := rightModel()
	if change != nil {
		change(&m)
	}
	return m
}

// plain is a model in memory of its own whose lists without elements are nil, so that two may be held against each other.
func plain(m api.Model) api.Model {
	m.Nodes, m.Inits, m.Inputs, m.Outputs = own(m.Nodes), own(m.Inits), own(m.Inputs), own(m.Outputs)
	for i := range m.Nodes {
		n := &m.Nodes[i]
		n.In, n.Out, n.Attrs = own(n.In), own(n.Out), own(n.Attrs)
		for j := range n.Attrs {
			a := &n.Attrs[j]
			a.T, a.Floats, a.Ints = plainTensor(a.T), own(a.Floats), own(a.Ints)
		}
	}
	for i := range m.Inits {
		m.Inits[i].T = plainTensor(m.Inits[i].T)
	}
	for i := range m.Inputs {
		m.Inputs[i].Dims = own(m.Inputs[i].Dims)
	}
	for i := range m.Outputs {
		m.Outputs[i].Dims = own(m.Outputs[i].Dims)
	}
	return m
}

func plainTensor(t api.Tensor) api.Tensor {
	t.Dims, t.F, t.I, t.B = own(t.Dims), own(t.F), own(t.I), own(t.B)
	return t
}

func own[E any](list []E) []E {
	if len(list) == 0 {
		return nil
	}
	return slices.Clone(list)
}

func alike(a, b api.Model) bool { return reflect.DeepEqual(plain(a), plain(b)) }

// wantModel asks an answer of a model; beside an error it is the zero one, its lists without elements.
func wantModel(t *testing.T, call any, want api.Model, wantErr api.Errno) func(api.Model, api.Errno) {
	return func(got api.Model, err api.Errno) {
		t.Helper()
		if err != wantErr || !alike(got, want) {
			t.Errorf("%s: %s, %v; want %s, %v", short(call), short(got), err, short(want), wantErr)
		}
	}
}

// wantBytes asks an answer of bytes.
func wantBytes(t *testing.T, call any, want []byte, wantErr api.Errno) func([]byte, api.Errno) {
	return func(got []byte, err api.Errno) {
		t.Helper()
		if err != wantErr || string(got) != string(want) {
			t.Errorf("%s: %s, %v; want %s, %v", short(call), short(got), err, short(want), wantErr)
		}
	}
}

// short is the beginning of what a test tells.
func short(what any) string {
	if s, is := what.(string); is {
		return s[:min(len(s), 300)]
	}
	s := fmt.Sprintf("%v", what)
	return s[:min(len(s), 400)]
}
