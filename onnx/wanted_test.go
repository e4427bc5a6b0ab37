package onnx_test

import (
	"encoding/binary"
	"math/big"
	"slices"

	"lattice/api"
)

// This file holds the chapter once more, as its table has it: first a file becomes a tree by the table's numbers and Wires, then the tree is judged message by message, then a model is made of it.

// line is one of the table: a field's number, its Wires, and the message that it is (if it is one), all of its fields joined or each one for itself.
type line struct {
	num    int
	wires  string
	in     string
	joined bool
}

// table is the chapter's, without what is wrong.
var table = map[string][]line{
	"model":     {{1, "0", "", false}, {7, "2", "graph", true}, {8, "2", "set", false}},
	"set":       {{1, "2", "", false}, {2, "0", "", false}},
	"graph":     {{1, "2", "node", false}, {2, "2", "", false}, {5, "2", "tensor", false}, {11, "2", "value", false}, {12, "2", "value", false}, {15, "2", "", false}},
	"node":      {{1, "2", "", false}, {2, "2", "", false}, {3, "2", "", false}, {4, "2", "", false}, {5, "2", "attribute", false}, {7, "2", "", false}},
	"attribute": {{1, "2", "", false}, {2, "5", "", false}, {3, "0", "", false}, {4, "2", "", false}, {5, "2", "tensor", true}, {7, "52", "", false}, {8, "02", "", false}, {20, "0", "", false}},
	"tensor":    {{1, "02", "", false}, {2, "0", "", false}, {3, "2", "", false}, {4, "52", "", false}, {5, "02", "", false}, {7, "02", "", false}, {8, "2", "", false}, {9, "2", "", false}, {14, "0", "", false}},
	"value":     {{1, "2", "", false}, {2, "2", "sort", true}},
	"sort":      {{1, "2", "typed", true}},
	"typed":     {{1, "0", "", false}, {2, "2", "shape", true}},
	"shape":     {{1, "2", "dim", false}},
	"dim":       {{1, "0", "", false}},
}

// tree is a message by its numbers: of each the fields, their numbers (of Wires 0 and 5, and packed ones), and the messages within.
type tree struct {
	fields  map[int][]part
	numbers map[int][]uint64
	in      map[int][]tree
}

// classes are what is wrong with a file.
type classes struct{ malformed, strange, much bool }

func (c classes) err() api.Errno {
	for _, one := range []struct {
		is  bool
		err api.Errno
	}{{c.malformed, api.ErrMalformed}, {c.strange, api.ErrUnsupported}, {c.much, api.ErrLimit}} {
		if one.is {
			return one.err
		}
	}
	return api.OK
}

// split is a message's fields; false, if it is none.
func split(b []byte) ([]part, bool) {
	var l []part
	for len(b) > 0 {
		tag, n := binary.Uvarint(b)
		if n <= 0 || tag>>3 == 0 || tag>>3 >= 1<<29 {
			return nil, false
		}
		b = b[n:]
		p := part{num: int(tag >> 3), wire: int(tag & 7)}
		size := 0
		switch p.wire {
		case 0, 2:
			if p.x, n = binary.Uvarint(b); n <= 0 {
				return nil, false
			}
			b = b[n:]
			if p.wire == 2 && p.x > uint64(len(b)) {
				return nil, false
			}
			if p.wire == 2 {
				size, p.data, p.x = int(p.x), b[:p.x], 0
			}
		case 1, 5:
			if size = map[int]int{1: 8, 5: 4}[p.wire]; len(b) < size {
				return nil, false
			}
			p.x = uint64(binary.LittleEndian.Uint32(b))
		default:
			return nil, false
		}
		l, b = append(l, p), b[size:]
	}
	return l, true
}

// grown is a message as a tree.
func (c *classes) grown(kind string, b []byte) tree {
	t := tree{map[int][]part{}, map[int][]uint64{}, map[int][]tree{}}
	l, ok := split(b)
	c.malformed = c.malformed || !ok
	for _, p := range l {
		t.fields[p.num] = append(t.fields[p.num], p)
	}
	for _, row := range table[kind] {
		var all []byte
		for _, p := range t.fields[row.num] {
			if !slices.Contains([]byte(row.wires), byte('0'+p.wire)) {
				c.malformed = true
				continue
			}
			all = append(all, p.data...)
			switch {
			case row.in != "" && !row.joined:
				t.in[row.num] = append(t.in[row.num], c.grown(row.in, p.data))
			case p.wire != 2:
				t.numbers[row.num] = append(t.numbers[row.num], p.x)
			case len(row.wires) == 2:
				t.numbers[row.num] = append(t.numbers[row.num], c.unpacked(row.wires[0], p.data)...)
			}
		}
		if row.joined && len(t.fields[row.num]) > 0 {
			t.in[row.num] = []tree{c.grown(row.in, all)}
		}
	}
	return t
}

// unpacked are numbers that stand in one field: varints or fours of bytes.
func (c *classes) unpacked(wire byte, b []byte) []uint64 {
	var list []uint64
	for len(b) > 0 {
		if wire == '5' && len(b) >= 4 {
			list, b = append(list, uint64(binary.LittleEndian.Uint32(b))), b[4:]
			continue
		}
		x, n := binary.Uvarint(b)
		if wire == '5' || n <= 0 {
			c.malformed = true
			return nil
		}
		list, b = append(list, x), b[n:]
	}
	return list
}

func (t tree) last(num int) int64 {
	list := append([]uint64{0}, t.numbers[num]...)
	return int64(list[len(list)-1])
}

func (t tree) text(num int) string {
	list := append([]part{{}}, t.fields[num]...)
	return string(list[len(list)-1].data)
}

func (t tree) ints(num int) []int64 {
	var list []int64
	for _, x := range t.numbers[num] {
		list = append(list, int64(x))
	}
	return list
}

func (t tree) has(num int) bool { return len(t.fields[num]) > 0 }

func known(x int64, of ...int64) bool { return slices.Contains(of, x) }

// judged notes what is wrong with a message, beyond its bytes, and with those within.
func (c *classes) judged(kind string, t tree) {
	refuse := func(is bool) { c.malformed = c.malformed || is }
	wonder := func(is bool) { c.strange = c.strange || is }
	most := func(n, most int) { c.much = c.much || n > most }
	name := func(nums ...int) {
		for _, num := range nums {
			most(len(t.text(num)), 256)
		}
	}
	switch kind {
	case "model":
		refuse(!t.has(7))
		version := int64(-1)
		for _, s := range t.in[8] {
			if d := s.text(1); d == "" || d == "ai.onnx" {
				version = s.last(2)
			}
		}
		wonder(version != 17)
	case "graph":
		name(2)
		most(len(t.fields[1]), 1024)
		most(len(t.fields[5]), 1024)
		most(len(t.fields[11]), 64)
		most(len(t.fields[12]), 64)
		wonder(t.has(15))
	case "node":
		name(3, 4)
		for _, p := range append(slices.Clone(t.fields[1]), t.fields[2]...) {
			most(len(p.data), 256)
		}
		most(max(len(t.fields[1]), len(t.fields[2]), len(t.fields[5])), 64)
		refuse(t.text(4) == "")
		wonder(t.text(7) != "" && t.text(7) != "ai.onnx")
	case "attribute":
		name(1)
		most(max(len(t.text(4)), len(t.numbers[7]), len(t.numbers[8])), 4096)
		refuse(t.last(20) == 0 || t.last(20) == 4 && !t.has(5))
		wonder(!known(t.last(20), 1, 2, 3, 4, 6, 7))
	case "tensor":
		name(8)
		c.judgedTensor(t)
	case "value":
		name(1)
		refuse(!t.has(2))
	case "sort":
		wonder(!t.has(1))
	case "typed":
		wonder(!t.has(2) || !known(t.last(1), 1, 7, 9))
	case "shape":
		var dims []int64
		for _, d := range t.in[1] {
			dims = append(dims, max(0, d.last(1)))
		}
		c.much = c.much || muchDims(dims)
	case "dim":
		wonder(!t.has(1))
		refuse(t.last(1) < 0)
	}
	for _, row := range table[kind] {
		for _, in := range t.in[row.num] {
			c.judged(row.in, in)
		}
	}
}

// muchDims: are there too many, or are their elements?
func muchDims(dims []int64) bool {
	return len(dims) > 8 || product(dims).Cmp(big.NewInt(4096)) > 0
}

func product(dims []int64) *big.Int {
	n := big.NewInt(1)
	for _, d := range dims {
		n.Mul(n, big.NewInt(d))
	}
	return n
}

func (c *classes) judgedTensor(t tree) {
	dims, kind := t.ints(1), t.last(2)
	right := true
	if slices.ContainsFunc(dims, func(d int64) bool { return d < 0 }) {
		c.malformed, right = true, false
	} else if muchDims(dims) {
		c.much, right = true, false
	}
	if kind == 0 {
		c.malformed, right = true, false
	} else if !known(kind, 1, 7, 9) {
		c.strange, right = true, false
	}
	c.strange = c.strange || t.has(3) || t.last(14) != 0
	if !right {
		return
	}
	n := int(product(dims).Int64())
	floats, small, numbers := len(t.numbers[4]), len(t.numbers[5]), len(t.numbers[7])
	if t.has(9) {
		raw := t.text(9)
		c.malformed = c.malformed || floats > 0 || small > 0 || numbers > 0 || len(raw) != n*map[int64]int{1: 4, 7: 8, 9: 1}[kind]
		for _, b := range []byte(raw) {
			c.malformed = c.malformed || kind == 9 && b > 1
		}
		return
	}
	switch kind {
	case 1:
		c.malformed = c.malformed || floats != n || small > 0 || numbers > 0
	case 7:
		c.malformed = c.malformed || numbers != n || small > 0 || floats > 0
	case 9:
		c.malformed = c.malformed || small != n || floats > 0 || numbers > 0
		for _, x := range t.numbers[5] {
			c.malformed = c.malformed || x > 1
		}
	}
}

// wantDecode is P7.1.
func wantDecode(b []byte) (api.Model, api.Errno) {
	if len(b) > 1<<22 {
		return api.Model{}, api.ErrLimit
	}
	var c classes
	t := c.grown("model", b)
	c.judged("model", t)
	if err := c.err(); err != api.OK {
		return api.Model{}, err
	}
	return modelOf(t.in[7][0]), api.OK
}

// modelOf is the model of a graph that is right.
func modelOf(g tree) api.Model {
	m := api.Model{Opset: 17, Name: g.text(2)}
	for _, n := range g.in[1] {
		node := api.Node{Op: n.text(4), Name: n.text(3)}
		for _, p := range n.fields[1] {
			node.In = append(node.In, string(p.data))
		}
		for _, p := range n.fields[2] {
			node.Out = append(node.Out, string(p.data))
		}
		for _, a := range n.in[5] {
			node.Attrs = append(node.Attrs, attrOf(a))
		}
		m.Nodes = append(m.Nodes, node)
	}
	for _, t := range g.in[5] {
		m.Inits = append(m.Inits, api.Init{Name: t.text(8), T: tensorOf(t)})
	}
	for _, v := range g.in[11] {
		m.Inputs = append(m.Inputs, valueOf(v))
	}
	for _, v := range g.in[12] {
		m.Outputs = append(m.Outputs, valueOf(v))
	}
	return m
}

func attrOf(a tree) api.Attr {
	attr := api.Attr{Name: a.text(1), Kind: int(a.last(20))}
	switch attr.Kind {
	case 1:
		attr.F = uint32(a.last(2))
	case 2:
		attr.I = a.last(3)
	case 3:
		attr.S = a.text(4)
	case 4:
		attr.T = tensorOf(a.in[5][0])
	case 6:
		for _, x := range a.numbers[7] {
			attr.Floats = append(attr.Floats, uint32(x))
		}
	case 7:
		attr.Ints = a.ints(8)
	}
	return attr
}

func tensorOf(t tree) api.Tensor {
	x := api.Tensor{Type: int(t.last(2))}
	for _, d := range t.ints(1) {
		x.Dims = append(x.Dims, int(d))
	}
	raw := []byte(t.text(9))
	switch x.Type {
	case 1:
		for four := range slices.Chunk(raw, 4) {
			x.F = append(x.F, binary.LittleEndian.Uint32(four))
		}
		for _, f := range t.numbers[4] {
			x.F = append(x.F, uint32(f))
		}
	case 7:
		for eight := range slices.Chunk(raw, 8) {
			x.I = append(x.I, int64(binary.LittleEndian.Uint64(eight)))
		}
		x.I = append(x.I, t.ints(7)...)
	case 9:
		for _, b := range raw {
			x.B = append(x.B, b == 1)
		}
		for _, b := range t.numbers[5] {
			x.B = append(x.B, b == 1)
		}
	}
	return x
}

func valueOf(v tree) api.Value {
	typed := v.in[2][0].in[1][0]
	value := api.Value{Name: v.text(1), Type: int(typed.last(1))}
	for _, d := range typed.in[2][0].in[1] {
		value.Dims = append(value.Dims, int(d.last(1)))
	}
	return value
}

// wantEncode is the file of P7.4, for a model that may be written, however long it is.
func wantEncode(m api.Model) []byte {
	var graph []part
	for _, n := range m.Nodes {
		graph = append(graph, message(1, nodeParts(n)...))
	}
	graph = append(graph, named(2, m.Name)...)
	for _, i := range m.Inits {
		graph = append(graph, message(5, tensorParts(i.Name, i.T)...))
	}
	for _, v := range m.Inputs {
		graph = append(graph, message(11, valueParts(v)...))
	}
	for _, v := range m.Outputs {
		graph = append(graph, message(12, valueParts(v)...))
	}
	return bytesOf(number(1, 8), message(7, graph...), message(8, number(2, 17)))
}

// named is a name's field; none, if it is empty.
func named(num int, name string) []part {
	if name == "" {
		return nil
	}
	return parts(text(num, name))
}

// listed is a packed list's field; none, if it is empty.
func listed(num int, b []byte) []part { return named(num, string(b)) }

func nodeParts(n api.Node) []part {
	var l []part
	for _, name := range n.In {
		l = append(l, text(1, name))
	}
	for _, name := range n.Out {
		l = append(l, text(2, name))
	}
	l = joined(l, named(3, n.Name), parts(text(4, n.Op)))
	for _, a := range n.Attrs {
		field := map[int][]part{
			1: {four(2, a.F)}, 2: {number(3, a.I)}, 3: {text(4, a.S)}, 4: {message(5, tensorParts("", a.T)...)},
			6: listed(7, fours(a.Floats)), 7: listed(8, varints(a.Ints)),
		}[a.Kind]
		l = append(l, message(5, joined(named(1, a.Name), field, parts(number(20, int64(a.Kind))))...))
	}
	return l
}

func tensorParts(name string, t api.Tensor) []part {
	return joined(listed(1, varints(wide(t.Dims))), parts(number(2, int64(t.Type))), named(8, name), parts(data(9, rawOf(t)...)))
}

func wide(dims []int) []int64 {
	var list []int64
	for _, d := range dims {
		list = append(list, int64(d))
	}
	return list
}

func rawOf(t api.Tensor) []byte {
	b := joined(fours(t.F), eights(t.I))
	for _, truth := range t.B {
		b = append(b, map[bool]byte{true: 1}[truth])
	}
	return b
}

func valueParts(v api.Value) []part {
	var shape []part
	for _, d := range v.Dims {
		shape = append(shape, message(1, number(1, int64(d))))
	}
	return joined(named(1, v.Name), parts(message(2, message(1, number(1, int64(v.Type)), message(2, shape...)))))
}

// wantCount is P7.2.
func wantCount(dims []int) (int, api.Errno) {
	switch {
	case slices.ContainsFunc(dims, func(d int) bool { return d < 0 }):
		return 0, api.ErrArg
	case muchDims(wide(dims)):
		return 0, api.ErrLimit
	}
	return int(product(wide(dims)).Int64()), api.OK
}

// wantCheck is P7.3.
func wantCheck(m api.Model) api.Errno {
	wrong, much := m.Opset != 17, len(m.Nodes) > 1024 || len(m.Inits) > 1024 || len(m.Inputs) > 64 || len(m.Outputs) > 64
	name := func(s string) { much = much || len(s) > 256 }
	shaped := func(kind int, dims []int) (int, bool) {
		n, err := wantCount(dims)
		wrong = wrong || err == api.ErrArg || !known(int64(kind), 1, 7, 9)
		much = much || err == api.ErrLimit
		return n, err == api.OK
	}
	tensor := func(t api.Tensor) {
		if n, is := shaped(t.Type, t.Dims); is {
			want := [3]int{}
			want[map[int]int{1: 0, 7: 1, 9: 2}[t.Type]] = n
			wrong = wrong || want != [3]int{len(t.F), len(t.I), len(t.B)}
		}
	}
	name(m.Name)
	for _, n := range m.Nodes {
		wrong, much = wrong || n.Op == "", much || len(n.In) > 64 || len(n.Out) > 64 || len(n.Attrs) > 64
		for _, s := range joined(n.In, n.Out, []string{n.Op, n.Name}) {
			name(s)
		}
		for _, a := range n.Attrs {
			name(a.Name)
			used := map[int]bool{1: a.F != 0, 2: a.I != 0, 3: a.S != "", 4: a.T.Type != 0 || len(a.T.Dims)+len(a.T.F)+len(a.T.I)+len(a.T.B) > 0, 6: len(a.Floats) > 0, 7: len(a.Ints) > 0}
			_, is := used[a.Kind]
			delete(used, a.Kind)
			for _, one := range used {
				wrong = wrong || one
			}
			wrong, much = wrong || !is, much || len(a.S) > 4096 || len(a.Floats) > 4096 || len(a.Ints) > 4096
			if a.Kind == 4 {
				tensor(a.T)
			}
		}
	}
	for _, i := range m.Inits {
		name(i.Name)
		tensor(i.T)
	}
	for _, v := range joined(m.Inputs, m.Outputs) {
		name(v.Name)
		shaped(v.Type, v.Dims)
	}
	switch {
	case wrong:
		return api.ErrArg
	case much:
		return api.ErrLimit
	}
	return api.OK
}
