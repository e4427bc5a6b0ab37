package onnx_test

import (
	"encoding/binary"
	"math"
	"slices"

	"lattice/api"
	"lattice/seeds"
)

// This file makes models and files by chance, the same each time.

// pick is one of some.
func pick[E any](s *seeds.Seed, list ...E) E { return list[s.Below(len(list))] }

// some is a list of up to most elements.
func some[E any](s *seeds.Seed, most int, one func(*seeds.Seed) E) []E {
	list := make([]E, s.Below(most+1))
	for i := range list {
		list[i] = one(s)
	}
	return list
}

func anyName(s *seeds.Seed) string {
	if s.Below(60) == 0 {
		return long(255 + s.Below(2))
	}
	return pick(s, "", "a", "b", "xyz", "\xff\x00", "ai.onnx")
}

func anyInt(s *seeds.Seed) int64 {
	return pick[int64](s, 0, 1, -1, 17, 127, 128, math.MaxInt64, math.MinInt64, int64(s.Next()), int64(s.Next())>>s.Below(64))
}

func anyBits(s *seeds.Seed) uint32 {
	return pick[uint32](s, 0, 0x80000000, api.FloatOne, api.FloatNaN, 0x7F800001, 0xFFFFFFFF, uint32(s.Next()))
}

func anyTruth(s *seeds.Seed) bool { return s.Below(2) == 0 }

func anyDims(s *seeds.Seed) []int {
	list := some(s, 3, func(s *seeds.Seed) int { return pick(s, 0, 1, 1, 2, 2, 3) })
	if slices.Contains(list, 0) && s.Below(2) == 0 {
		list = append(list, pick(s, 5000, math.MaxInt, 1<<32))
	}
	if s.Below(10) == 0 {
		list = append(many(8-len(list), 1), list...)
	}
	return list
}

func anyTensor(s *seeds.Seed) api.Tensor {
	t := api.Tensor{Type: pick(s, api.Float, api.Int, api.Bool), Dims: anyDims(s)}
	n, _ := wantCount(t.Dims)
	for range n {
		switch t.Type {
		case api.Float:
			t.F = append(t.F, anyBits(s))
		case api.Int:
			t.I = append(t.I, anyInt(s))
		case api.Bool:
			t.B = append(t.B, anyTruth(s))
		}
	}
	return t
}

func anyAttr(s *seeds.Seed) api.Attr {
	a := api.Attr{Name: anyName(s), Kind: pick(s, 1, 2, 3, 4, 6, 7)}
	switch a.Kind {
	case api.AttrFloat:
		a.F = anyBits(s)
	case api.AttrInt:
		a.I = anyInt(s)
	case api.AttrText:
		a.S = anyName(s)
	case api.AttrTensor:
		a.T = anyTensor(s)
	case api.AttrFloats:
		a.Floats = some(s, 5, anyBits)
	case api.AttrInts:
		a.Ints = some(s, 5, anyInt)
	}
	return a
}

func anyNode(s *seeds.Seed) api.Node {
	return api.Node{Op: pick(s, "O", "Add", "\xff", long(1+s.Below(256))), Name: anyName(s), In: some(s, 3, anyName), Out: some(s, 3, anyName), Attrs: some(s, 3, anyAttr)}
}

func anyInit(s *seeds.Seed) api.Init { return api.Init{Name: anyName(s), T: anyTensor(s)} }

func anyValue(s *seeds.Seed) api.Value {
	return api.Value{Name: anyName(s), Type: pick(s, api.Float, api.Int, api.Bool), Dims: anyDims(s)}
}

// anyModel may be written.
func anyModel(s *seeds.Seed) api.Model {
	return api.Model{Opset: 17, Name: anyName(s), Nodes: some(s, 3, anyNode), Inits: some(s, 2, anyInit), Inputs: some(s, 2, anyValue), Outputs: some(s, 2, anyValue)}
}

// longer is a varint, maybe not in its shortest form.
func longer(s *seeds.Seed, x uint64) []byte {
	b := varint(x)
	for s.Below(4) == 0 && len(b) < 10 {
		b[len(b)-1] |= 128
		b = append(b, 0)
	}
	return b
}

// looseBytes is a message whose varints are as long as chance has it.
func looseBytes(s *seeds.Seed, l []part) []byte {
	var b []byte
	for _, p := range l {
		b = append(b, longer(s, uint64(p.num)*8+uint64(p.wire))...)
		switch p.wire {
		case 0:
			b = append(b, longer(s, p.x)...)
		case 1:
			b = binary.LittleEndian.AppendUint64(b, p.x)
		case 2:
			b = append(append(b, longer(s, uint64(len(p.data)))...), p.data...)
		case 5:
			b = binary.LittleEndian.AppendUint32(b, uint32(p.x))
		}
	}
	return b
}

// unknown is a field of a number that is none of a message's.
func unknown(s *seeds.Seed, kind string) part {
	for {
		num := 1 + s.Below(pick(s, 30, 1<<29-1))
		if !slices.ContainsFunc(table[kind], func(row line) bool { return row.num == num }) {
			p := pick(s, each(num)...)
			p.data = []byte(long(s.Below(3)))[:len(p.data)]
			return p
		}
	}
}

// single are the numbers of each message that count by the last one.
var single = map[string][]int{
	"model": {1}, "set": {1, 2}, "graph": {2}, "node": {3, 4, 7}, "attribute": {1, 2, 3, 4, 20}, "tensor": {2, 8, 9, 14}, "value": {1}, "typed": {1}, "dim": {1},
}

// loose is a message that says the same as its parts: single fields stand there once more ahead, single messages are split, unlike numbers change places, others stand between.
func loose(s *seeds.Seed, kind string, l []part) []byte {
	var more []part
	for _, p := range l {
		row := line{}
		if i := slices.IndexFunc(table[kind], func(row line) bool { return row.num == p.num }); i >= 0 {
			row = table[kind][i]
		}
		if slices.Contains(single[kind], p.num) && s.Below(4) == 0 {
			ahead := p
			ahead.x, ahead.data = s.Next()>>32, []byte(pick(s, "", "ahead", long(257)))
			more = append(more, ahead)
		}
		if row.joined && s.Below(2) == 0 {
			at := s.Below(len(p.data) + 1)
			more = append(more, data(p.num, p.data[:at]...))
			p.data = p.data[at:]
		}
		more = append(more, p)
	}
	for range s.Below(3) {
		more = append(more, unknown(s, kind))
	}
	return looseBytes(s, shuffled(s, more))
}

// shuffled has fields of unlike numbers in any places, those of one number still in order.
func shuffled(s *seeds.Seed, l []part) []part {
	nums := make([]int, len(l))
	queues := map[int][]part{}
	for i, p := range l {
		nums[i] = p.num
		queues[p.num] = append(queues[p.num], p)
	}
	for i := range nums {
		j := i + s.Below(len(nums)-i)
		nums[i], nums[j] = nums[j], nums[i]
	}
	out := make([]part, len(l))
	for i, num := range nums {
		out[i] = queues[num][0]
		queues[num] = queues[num][1:]
	}
	return out
}

// looseList are elements one by one, or packed, or both.
func looseList(s *seeds.Seed, num int, single []part) []part {
	var l []part
	for len(single) > 0 {
		n := 1 + s.Below(len(single))
		if s.Below(2) == 0 {
			var b []byte
			for _, p := range single[:n] {
				if p.wire == 0 {
					b = append(b, longer(s, p.x)...)
				} else {
					b = binary.LittleEndian.AppendUint32(b, uint32(p.x))
				}
			}
			l = append(l, data(num, b...))
		} else {
			l = append(l, single[:n]...)
		}
		single = single[n:]
	}
	if s.Below(4) == 0 {
		l = append(l, data(num))
	}
	return l
}

func numbers[N int | int64](num int, list []N) []part {
	var l []part
	for _, x := range list {
		l = append(l, number(num, int64(x)))
	}
	return l
}

func fourths(num int, list []uint32) []part {
	var l []part
	for _, x := range list {
		l = append(l, four(num, x))
	}
	return l
}

func looseTensor(s *seeds.Seed, name string, t api.Tensor) []byte {
	l := joined(looseList(s, 1, numbers(1, t.Dims)), parts(number(2, int64(t.Type))), named(8, name))
	if s.Below(2) == 0 {
		return loose(s, "tensor", append(l, data(9, rawOf(t)...)))
	}
	var small []int64
	for _, truth := range t.B {
		small = append(small, map[bool]int64{true: 1}[truth])
	}
	return loose(s, "tensor", joined(l, looseList(s, 4, fourths(4, t.F)), looseList(s, 7, numbers(7, t.I)), looseList(s, 5, numbers(5, small))))
}

// looseAttr has fields that its kind does not name, too.
func looseAttr(s *seeds.Seed, a api.Attr) []byte {
	other := anyAttr(s)
	other.Name, other.Kind, other.F, other.I, other.S = a.Name, a.Kind, anyBits(s), anyInt(s), anyName(s)
	noTensor := other.T.Type == api.None
	switch a.Kind {
	case api.AttrFloat:
		other.F = a.F
	case api.AttrInt:
		other.I = a.I
	case api.AttrText:
		other.S = a.S
	case api.AttrTensor:
		other.T, noTensor = a.T, false
	case api.AttrFloats:
		other.Floats = a.Floats
	case api.AttrInts:
		other.Ints = a.Ints
	}
	l := joined(named(1, a.Name), parts(number(20, int64(a.Kind)), four(2, other.F), number(3, other.I), text(4, other.S)), looseList(s, 7, fourths(7, other.Floats)), looseList(s, 8, numbers(8, other.Ints)))
	if !noTensor {
		l = append(l, data(5, looseTensor(s, anyName(s), other.T)...))
	}
	return loose(s, "attribute", l)
}

func looseNode(s *seeds.Seed, n api.Node) []byte {
	l := joined(named(3, n.Name), parts(text(4, n.Op), text(7, pick(s, "", "ai.onnx"))))
	for _, name := range n.In {
		l = append(l, text(1, name))
	}
	for _, name := range n.Out {
		l = append(l, text(2, name))
	}
	for _, a := range n.Attrs {
		l = append(l, data(5, looseAttr(s, a)...))
	}
	return loose(s, "node", l)
}

func looseValue(s *seeds.Seed, v api.Value) []byte {
	var shape []part
	for _, d := range v.Dims {
		shape = append(shape, data(1, loose(s, "dim", parts(number(1, int64(d))))...))
	}
	typed := loose(s, "typed", parts(number(1, int64(v.Type)), data(2, loose(s, "shape", shape)...)))
	return loose(s, "value", append(named(1, v.Name), data(2, loose(s, "sort", parts(data(1, typed...)))...)))
}

// looseFile is a file that says a model in a form that Encode does not have.
func looseFile(s *seeds.Seed, m api.Model) []byte {
	graph := named(2, m.Name)
	for _, n := range m.Nodes {
		graph = append(graph, data(1, looseNode(s, n)...))
	}
	for _, i := range m.Inits {
		graph = append(graph, data(5, looseTensor(s, i.Name, i.T)...))
	}
	for _, v := range m.Inputs {
		graph = append(graph, data(11, looseValue(s, v)...))
	}
	for _, v := range m.Outputs {
		graph = append(graph, data(12, looseValue(s, v)...))
	}
	l := parts(data(7, loose(s, "graph", graph)...), number(1, anyInt(s)))
	for range s.Below(3) {
		l = append(l, message(8, pick(s, text(1, ""), text(1, "ai.onnx"), text(1, "b")), number(2, anyInt(s))))
	}
	l = append(l, data(8, loose(s, "set", parts(text(1, pick(s, "", "ai.onnx")), number(2, 17)))...))
	if s.Below(3) == 0 {
		l = append(l, message(8, text(1, "b"), number(2, anyInt(s))))
	}
	return loose(s, "model", l)
}

// spoiled is a message with a change by chance, in it or in one within.
func spoiled(s *seeds.Seed, kind string, b []byte) []byte {
	l, ok := split(b)
	if !ok || len(l) == 0 || s.Below(40) == 0 {
		return spoiledBytes(s, b)
	}
	var within []int
	for i, p := range l {
		if p.wire == 2 && inner(kind, p.num) != "" {
			within = append(within, i)
		}
	}
	if len(within) > 0 && s.Below(5) > 0 {
		i := pick(s, within...)
		l[i].data = spoiled(s, inner(kind, l[i].num), l[i].data)
		return bytesOf(l...)
	}
	return bytesOf(spoiledParts(s, kind, l)...)
}

// inner is the message that a field of another is.
func inner(kind string, num int) string {
	for _, row := range table[kind] {
		if row.num == num {
			return row.in
		}
	}
	return ""
}

func spoiledBytes(s *seeds.Seed, b []byte) []byte {
	b = slices.Clone(b)
	at := s.Below(len(b) + 1)
	switch s.Below(3) {
	case 0:
		return b[:at]
	case 1:
		return slices.Insert(b, at, byte(s.Next()))
	}
	if at < len(b) {
		b[at] = byte(s.Next())
	}
	return b
}

// spoiledParts is a message's fields, one of them gone, more, moved or changed.
func spoiledParts(s *seeds.Seed, kind string, l []part) []part {
	i := s.Below(len(l))
	row := table[kind][s.Below(len(table[kind]))]
	edge := pick(s, 0, 1, 2, 3, 4, 5, 6, 7, 8, 9, 16, 17, 18, 4096, 4097, -1, 1<<32, 1<<32+1, 1<<62, math.MinInt64)
	switch s.Below(9) {
	case 0:
		return slices.Delete(l, i, i+1)
	case 1:
		return slices.Insert(l, s.Below(len(l)+1), l[i])
	case 2:
		l[i].wire = pick(s, 0, 1, 2, 5)
	case 3:
		l[i].num = row.num
	case 4:
		l[i].num = 1 + s.Below(20)
	case 5, 6:
		l[i].x = uint64(edge)
		if l[i].wire == 2 {
			l[i].data = pick(s, nil, varint(uint64(edge)), []byte(long(256)), []byte(long(257)), []byte(long(4097)), spoiledBytes(s, l[i].data))
		}
	case 7:
		wire := int(row.wires[s.Below(len(row.wires))] - '0')
		return slices.Insert(l, s.Below(len(l)+1), part{num: row.num, wire: wire, x: uint64(edge), data: pick(s, nil, varint(uint64(edge)), make([]byte, 4))})
	case 8:
		return slices.Insert(l, i, many(pick(s, 7, 8, 62, 63, 64), l[i])...)
	}
	return l
}

// wildModel may be written or not.
func wildModel(s *seeds.Seed) api.Model {
	m := anyModel(s)
	for range s.Below(3) {
		spoilModel(s, &m)
	}
	return m
}

func wildName(s *seeds.Seed) string { return pick(s, "", "a", long(256), long(257)) }

func wildDims(s *seeds.Seed) []int {
	return pick(s, dims(-1), dims(0, -1), dims(4097), dims(4096), dims(64, 65), many(8, 1), many(9, 1), append(many(9, 1), -1), nil, dims(0), dims(5000, 0), dims(1<<32, 1<<32), dims(2))
}

func spoilModel(s *seeds.Seed, m *api.Model) {
	switch s.Below(9) {
	case 0:
		m.Opset = pick[int64](s, 0, 16, 17, 18, 17+1<<32, -17)
	case 1:
		m.Name = wildName(s)
	case 2:
		m.Nodes = append(m.Nodes, many(pick(s, 1, 1020, 1024, 1025), api.Node{Op: "A"})...)
	case 3:
		m.Inits = append(m.Inits, many(pick(s, 1, 1020, 1024, 1025), api.Init{T: api.Tensor{Type: api.Bool, Dims: dims(0)}})...)
	case 4:
		m.Inputs = append(m.Inputs, many(pick(s, 1, 62, 64, 65), anyValue(s))...)
	case 5:
		m.Outputs = append(m.Outputs, many(pick(s, 1, 62, 64, 65), anyValue(s))...)
	case 6:
		if len(m.Inits) > 0 {
			i := &m.Inits[s.Below(len(m.Inits))]
			spoilTensor(s, &i.T)
			i.Name = wildName(s)
		}
	case 7:
		if all := pick(s, m.Inputs, m.Outputs); len(all) > 0 {
			v := &all[s.Below(len(all))]
			v.Name = wildName(s)
			v.Type = pick(s, 1, 7, 9, 9, 7, 1, 0, 2, -1, 1+1<<32)
			v.Dims = wildDims(s)
		}
	case 8:
		if len(m.Nodes) > 0 {
			spoilNode(s, &m.Nodes[s.Below(len(m.Nodes))])
		}
	}
}

func spoilNode(s *seeds.Seed, n *api.Node) {
	switch s.Below(6) {
	case 0:
		n.Op = wildName(s)
	case 1:
		n.Name = wildName(s)
	case 2:
		n.In = append(n.In, many(pick(s, 1, 62, 64), wildName(s))...)
	case 3:
		n.Out = append(n.Out, many(pick(s, 1, 62, 64), wildName(s))...)
	case 4:
		n.Attrs = append(n.Attrs, many(pick(s, 1, 62, 64), anyAttr(s))...)
	case 5:
		if len(n.Attrs) > 0 {
			spoilAttr(s, &n.Attrs[s.Below(len(n.Attrs))])
		}
	}
}

func spoilAttr(s *seeds.Seed, a *api.Attr) {
	switch s.Below(8) {
	case 0:
		a.Kind = pick(s, 0, 1, 2, 3, 4, 5, 6, 7, 8, -1, 1+1<<32)
	case 1:
		a.Name = wildName(s)
	case 2:
		a.F = pick[uint32](s, 0, 1, 0x80000000)
	case 3:
		a.I = pick[int64](s, 0, 1, -1)
	case 4:
		a.S = pick(s, "", "s", long(4096), long(4097))
	case 5:
		spoilTensor(s, &a.T)
	case 6:
		a.Floats = make([]uint32, pick(s, 0, 1, 4096, 4097))
	case 7:
		a.Ints = make([]int64, pick(s, 0, 1, 4096, 4097))
	}
}

func spoilTensor(s *seeds.Seed, t *api.Tensor) {
	switch s.Below(5) {
	case 0:
		t.Type = pick(s, 0, 1, 2, 7, 9, -1, 1+1<<32)
	case 1:
		t.Dims = wildDims(s)
	case 2:
		t.F = make([]uint32, pick(s, 0, 1, 2, 4096))
	case 3:
		t.I = make([]int64, pick(s, 0, 1, 2, 4096))
	case 4:
		t.B = make([]bool, pick(s, 0, 1, 2, 4096))
	}
}
