package onnx_test

import (
	"slices"
	"strings"
	"testing"

	"lattice/api"
	"lattice/onnx"
)

// said are the table's numbers of each place, with their Wires.
var said = map[string]map[int]string{
	"model":           {1: "0", 7: "2", 8: "2"},
	"set":             {1: "2", 2: "0"},
	"graph":           {1: "2", 2: "2", 5: "2", 11: "2", 12: "2", 15: "2"},
	"node":            {1: "2", 2: "2", 3: "2", 4: "2", 5: "2", 7: "2"},
	"attribute":       {1: "2", 2: "5", 3: "0", 4: "2", 5: "2", 7: "52", 8: "02", 20: "0"},
	"attributeTensor": {1: "02", 2: "0", 3: "2", 4: "52", 5: "02", 7: "02", 8: "2", 9: "2", 14: "0"},
	"constant":        {1: "02", 2: "0", 3: "2", 4: "52", 5: "02", 7: "02", 8: "2", 9: "2", 14: "0"},
	"input":           {1: "2", 2: "2"},
	"output":          {1: "2", 2: "2"},
	"sort":            {1: "2"},
	"typed":           {1: "0", 2: "2"},
	"shape":           {1: "2"},
	"dim":             {1: "0"},
}

// each is a field of each Wire.
func each(num int) []part { return parts(number(num, 1), eight(num, 1), data(num), four(num, 1)) }

// inMidst has more parts behind the first one.
func inMidst(more ...part) edit {
	return func(l []part) []part { return joined(l[:min(1, len(l))], more, l[min(1, len(l)):]) }
}

// A field of a number that is not named is passed over, whatever its Wire is and wherever it stands.
func TestNotNamed(t *testing.T) {
	for _, place := range places {
		nums := dims(100, 1000, 1<<29-1)
		for num := range 40 {
			nums = append(nums, num)
		}
		for _, num := range nums {
			if _, is := said[place][num]; is || num == 0 {
				continue
			}
			for _, p := range append(each(num), text(num, long(5000)), data(num, 255, 255), number(num, -1), number(num, 0), eight(num, 1<<63)) {
				for _, e := range []edit{with(p), ahead(p), inMidst(p), with(p, p)} {
					wantModel(t, place+" with an unknown field", rightModel(), api.OK)(onnx.Decode(edits{place: e}.file()))
				}
			}
		}
		// They may not make up for bytes that are no message.
		for wire := range byte(8) {
			b := such(100*8%128|128|wire, 100*8/128)
			want := api.ErrMalformed
			wantModel(t, place+" with an unknown field that ends", api.Model{}, want)(onnx.Decode(edits{place: with(b)}.file()))
			if wire == 3 || wire == 4 || wire >= 6 {
				b.data = append(b.data, 0, 0, 0, 0)
				wantModel(t, place+" with a Wire that is none", api.Model{}, want)(onnx.Decode(edits{place: with(b)}.file()))
				wantModel(t, place+" with a Wire that is none", api.Model{}, want)(onnx.Decode(edits{place: ahead(b)}.file()))
			}
		}
	}
}

// A field that is named with a Wire that is not said is malformed, beside others that are right and behind or ahead of them, too.
func TestWireNotSaid(t *testing.T) {
	for _, place := range places {
		for num, wires := range said[place] {
			for _, p := range each(num) {
				if strings.Contains(wires, string(rune('0'+p.wire))) {
					continue
				}
				for _, e := range []edit{with(p), ahead(p), inMidst(p), both(without(num), with(p))} {
					b := edits{place: e}.file()
					wantModel(t, place+" with another Wire", api.Model{}, api.ErrMalformed)(onnx.Decode(b))
				}
			}
		}
	}
}

// Bytes of a message that are none.
func TestNoMessage(t *testing.T) {
	for _, place := range places {
		for _, b := range [][]byte{{0}, {0, 0}, {8}, {128}, {18, 1}, {18, 255}, {13, 1, 2, 3}, {9, 1, 2, 3, 4, 5, 6, 7}, {11}, {12}, {14, 0}, {15, 0}, {248, 255, 255, 255, 31, 0}} {
			wantModel(t, place+" of bytes that are none", api.Model{}, api.ErrMalformed)(onnx.Decode(edits{place: with(such(b...))}.file()))
			wantModel(t, place+" of nothing else", api.Model{}, api.ErrMalformed)(onnx.Decode(edits{place: only(such(b...))}.file()))
		}
	}
}

// try is an edit of one place, and what becomes of the model.
type try struct {
	place  string
	edit   edit
	err    api.Errno
	change func(*api.Model)
}

func (c try) run(t *testing.T, what string) {
	t.Helper()
	want := api.Model{}
	if c.err == api.OK {
		want = changed(c.change)
	}
	b := edits{c.place: c.edit}.file()
	wantModel(t, what+", "+c.place, want, c.err)(onnx.Decode(b))
	wantModel(t, what+", the other way to read, "+c.place, want, c.err)(wantDecode(b))
}

func firstNode(m *api.Model) *api.Node { return &m.Nodes[0] }
func firstAttr(m *api.Model) *api.Attr { return &m.Nodes[0].Attrs[0] }

// What is absent is 0, or no bytes, or wrong, if the table says so.
func TestAbsent(t *testing.T) {
	none := func(*api.Model) {}
	for _, c := range []try{
		{"model", without(1), api.OK, none},
		{"model", without(7), api.ErrMalformed, nil},
		{"model", without(8), api.ErrUnsupported, nil},
		{"model", only(), api.ErrMalformed, nil},
		{"set", without(1), api.OK, none},
		{"set", without(2), api.ErrUnsupported, nil},
		{"set", only(), api.ErrUnsupported, nil},
		{"graph", without(1), api.OK, func(m *api.Model) { m.Nodes = nil }},
		{"graph", without(2), api.OK, func(m *api.Model) { m.Name = "" }},
		{"graph", without(5), api.OK, func(m *api.Model) { m.Inits = nil }},
		{"graph", without(11), api.OK, func(m *api.Model) { m.Inputs = nil }},
		{"graph", without(12), api.OK, func(m *api.Model) { m.Outputs = nil }},
		{"graph", only(), api.OK, func(m *api.Model) { *m = api.Model{Opset: 17} }},
		{"node", without(1), api.OK, func(m *api.Model) { firstNode(m).In = nil }},
		{"node", without(2), api.OK, func(m *api.Model) { firstNode(m).Out = nil }},
		{"node", without(3), api.OK, func(m *api.Model) { firstNode(m).Name = "" }},
		{"node", without(4), api.ErrMalformed, nil},
		{"node", without(5), api.OK, func(m *api.Model) { firstNode(m).Attrs = nil }},
		{"node", without(7), api.OK, none},
		{"node", only(), api.ErrMalformed, nil},
		{"node", only(text(4, "A")), api.OK, func(m *api.Model) { *firstNode(m) = api.Node{Op: "A"} }},
		{"attribute", without(1), api.OK, func(m *api.Model) { firstAttr(m).Name = "" }},
		{"attribute", without(3), api.OK, func(m *api.Model) { firstAttr(m).I = 0 }},
		{"attribute", without(20), api.ErrMalformed, nil},
		{"attribute", only(), api.ErrMalformed, nil},
		{"constant", without(1), api.ErrMalformed, nil},
		{"constant", without(2), api.ErrMalformed, nil},
		{"constant", without(8), api.OK, func(m *api.Model) { m.Inits[0].Name = "" }},
		{"constant", without(9), api.ErrMalformed, nil},
		{"constant", only(), api.ErrMalformed, nil},
		{"attributeTensor", without(8), api.OK, none},
		{"attributeTensor", only(), api.ErrMalformed, nil},
		{"input", without(1), api.OK, func(m *api.Model) { m.Inputs[0].Name = "" }},
		{"input", without(2), api.ErrMalformed, nil},
		{"output", without(1), api.OK, func(m *api.Model) { m.Outputs[0].Name = "" }},
		{"output", without(2), api.ErrMalformed, nil},
		{"output", only(), api.ErrMalformed, nil},
		{"sort", without(1), api.ErrUnsupported, nil},
		{"typed", without(1), api.ErrUnsupported, nil},
		{"typed", without(2), api.ErrUnsupported, nil},
		{"typed", only(), api.ErrUnsupported, nil},
		{"shape", without(1), api.OK, func(m *api.Model) { m.Outputs[0].Dims = nil }},
		{"dim", without(1), api.ErrUnsupported, nil},
	} {
		c.run(t, "absent")
	}
}

// A single field counts by the last one of its number; of what is no single one each counts, in order.
func TestTwice(t *testing.T) {
	none := func(*api.Model) {}
	twoInputs := parts(message(11, text(1, "p"), message(2, message(1, number(1, 9), message(2, message(1, number(1, 0)))))), message(11, message(2, message(1, number(1, 1), message(2)))))
	for _, c := range []try{
		{"model", with(number(1, 0), number(1, -1)), api.OK, none},
		{"set", with(number(2, 16)), api.ErrUnsupported, nil},
		{"set", ahead(number(2, 16)), api.OK, none},
		{"set", with(text(1, "other")), api.ErrUnsupported, nil},
		{"set", ahead(text(1, "other")), api.OK, none},
		{"graph", with(text(2, "h"), text(2, "i")), api.OK, func(m *api.Model) { m.Name = "i" }},
		{"graph", with(text(2, "")), api.OK, func(m *api.Model) { m.Name = "" }},
		{"graph", ahead(text(2, long(257))), api.OK, none},
		{"graph", with(message(1, text(4, "Last"))), api.OK, func(m *api.Model) { m.Nodes = append(m.Nodes, api.Node{Op: "Last"}) }},
		{"graph", ahead(message(1, text(4, "Zero"))), api.OK, func(m *api.Model) { m.Nodes = slices.Insert(m.Nodes, 0, api.Node{Op: "Zero"}) }},
		{"graph", with(twoInputs...), api.OK, func(m *api.Model) {
			m.Inputs = append(m.Inputs, api.Value{Name: "p", Type: api.Bool, Dims: dims(0)}, api.Value{Type: api.Float})
		}},
		{"graph", with(message(5, number(2, 9), data(9, 1))), api.OK, func(m *api.Model) {
			m.Inits = append(m.Inits, api.Init{T: api.Tensor{Type: api.Bool, B: []bool{true}}})
		}},
		{"node", with(text(1, ""), text(1, "x")), api.OK, func(m *api.Model) { firstNode(m).In = []string{"x", "c", "", "x"} }},
		{"node", with(text(2, ""), text(2, "")), api.OK, func(m *api.Model) { firstNode(m).Out = []string{"t", "", ""} }},
		{"node", with(text(3, "second")), api.OK, func(m *api.Model) { firstNode(m).Name = "second" }},
		{"node", ahead(text(3, long(300))), api.OK, none},
		{"node", with(text(4, "Other")), api.OK, func(m *api.Model) { firstNode(m).Op = "Other" }},
		{"node", with(text(4, "")), api.ErrMalformed, nil},
		{"node", ahead(text(4, ""), text(4, long(300))), api.OK, none},
		{"node", with(message(5, number(20, 1))), api.OK, func(m *api.Model) { firstNode(m).Attrs = append(firstNode(m).Attrs, api.Attr{Kind: api.AttrFloat}) }},
		{"node", with(text(7, "other")), api.ErrUnsupported, nil},
		{"node", ahead(text(7, "other")), api.OK, none},
		{"node", with(text(7, "")), api.OK, none},
		{"attribute", with(text(1, "z")), api.OK, func(m *api.Model) { firstAttr(m).Name = "z" }},
		{"attribute", ahead(text(1, long(257))), api.OK, none},
		{"attribute", with(number(3, 7), number(3, -8)), api.OK, func(m *api.Model) { firstAttr(m).I = -8 }},
		{"attribute", with(four(2, 1), four(2, 0xFFFFFFFF), number(20, 1)), api.OK, func(m *api.Model) { *firstAttr(m) = api.Attr{Name: "a", Kind: 1, F: 0xFFFFFFFF} }},
		{"attribute", with(text(4, long(5000)), text(4, "s"), number(20, 3)), api.OK, func(m *api.Model) { *firstAttr(m) = api.Attr{Name: "a", Kind: 3, S: "s"} }},
		{"attribute", with(four(7, 1), fixed(7, 2, 3), fixed(7), four(7, 4), number(20, 6)), api.OK, func(m *api.Model) {
			*firstAttr(m) = api.Attr{Name: "a", Kind: 6, Floats: floats(1, 2, 3, 4)}
		}},
		{"attribute", with(number(8, 1), packed(8, 2, -3), packed(8), number(8, 4), number(20, 7)), api.OK, func(m *api.Model) {
			*firstAttr(m) = api.Attr{Name: "a", Kind: 7, Ints: ints(1, 2, -3, 4)}
		}},
		{"attribute", with(number(20, 0)), api.ErrMalformed, nil},
		{"attribute", with(number(20, 5)), api.ErrUnsupported, nil},
		{"attribute", ahead(number(20, 0), number(20, 5), number(20, 1)), api.OK, none},
		{"constant", with(number(2, 0)), api.ErrMalformed, nil},
		{"constant", with(number(2, 2)), api.ErrUnsupported, nil},
		{"constant", ahead(number(2, 0), number(2, 2)), api.OK, none},
		{"constant", with(text(8, "d")), api.OK, func(m *api.Model) { m.Inits[0].Name = "d" }},
		{"constant", with(whole(9, 3, 4)), api.OK, func(m *api.Model) { m.Inits[0].T.I = ints(3, 4) }},
		{"constant", ahead(data(9, 1, 2, 3)), api.OK, none},
		{"constant", with(number(14, 1), number(14, 0)), api.OK, none},
		{"constant", with(number(14, 0), number(14, 1)), api.ErrUnsupported, nil},
		{"constant", ahead(number(1, 1), packed(1, 1)), api.OK, func(m *api.Model) { m.Inits[0].T.Dims = dims(1, 1, 2) }},
		{"output", with(text(1, "w")), api.OK, func(m *api.Model) { m.Outputs[0].Name = "w" }},
		{"output", ahead(text(1, long(257))), api.OK, none},
		{"typed", with(number(1, 9)), api.OK, func(m *api.Model) { m.Outputs[0].Type = api.Bool }},
		{"typed", with(number(1, 2)), api.ErrUnsupported, nil},
		{"typed", ahead(number(1, 2)), api.OK, none},
		{"shape", with(message(1, number(1, 0))), api.OK, func(m *api.Model) { m.Outputs[0].Dims = dims(2, 3, 0) }},
		{"dim", with(number(1, 5)), api.OK, func(m *api.Model) { m.Outputs[0].Dims = dims(5, 3) }},
		{"dim", ahead(number(1, -5)), api.OK, none},
		{"dim", with(number(1, -1)), api.ErrMalformed, nil},
	} {
		c.run(t, "twice")
	}
}

// A message that is single is made up of all its fields: what one of them says may be taken back, or gone on with, by the next.
func TestSingleMessages(t *testing.T) {
	none := func(*api.Model) {}
	for _, c := range []try{
		{"model", with(data(7)), api.OK, none},
		{"model", with(message(7, text(2, "h"))), api.OK, func(m *api.Model) { m.Name = "h" }},
		{"model", ahead(message(7, text(2, "h"))), api.OK, none},
		{"model", with(message(7, message(1, text(4, "Last")))), api.OK, func(m *api.Model) { m.Nodes = append(m.Nodes, api.Node{Op: "Last"}) }},
		{"model", with(data(7, 18), data(7, 1, 'h')), api.OK, func(m *api.Model) { m.Name = "h" }},
		{"model", with(data(7, 18)), api.ErrMalformed, nil},
		{"model", only(data(7), message(8, number(2, 17))), api.OK, func(m *api.Model) { *m = api.Model{Opset: 17} }},
		{"output", with(data(2)), api.OK, none},
		{"output", with(message(2, message(1, number(1, 9)))), api.OK, func(m *api.Model) { m.Outputs[0].Type = 9 }},
		{"output", with(message(2, message(1, message(2, message(1, number(1, 4)))))), api.OK, func(m *api.Model) { m.Outputs[0].Dims = dims(2, 3, 4) }},
		{"output", with(message(2, data(1), data(1, 8), data(1, 9))), api.OK, func(m *api.Model) { m.Outputs[0].Type = 9 }},
		{"output", both(without(2), with(data(2))), api.ErrUnsupported, nil},
		{"sort", with(data(1)), api.OK, none},
		{"sort", ahead(message(1, number(1, 2))), api.OK, none},
		{"sort", with(message(1, number(1, 2))), api.ErrUnsupported, nil},
		{"sort", only(message(1, number(1, 7)), message(1, message(2))), api.OK, func(m *api.Model) { m.Outputs[0].Type, m.Outputs[0].Dims = 7, nil }},
		{"sort", only(data(1)), api.ErrUnsupported, nil},
		{"typed", with(data(2)), api.OK, none},
		{"typed", with(message(2, message(1, number(1, 0)))), api.OK, func(m *api.Model) { m.Outputs[0].Dims = dims(2, 3, 0) }},
		{"typed", ahead(message(2, message(1, number(1, 7)))), api.OK, func(m *api.Model) { m.Outputs[0].Dims = dims(7, 2, 3) }},
		{"typed", both(without(2), with(data(2))), api.OK, func(m *api.Model) { m.Outputs[0].Dims = nil }},
		// Sets, dims and the other messages are each one for itself.
		{"shape", only(data(1, 8), data(1, 5)), api.ErrMalformed, nil},
		{"shape", with(data(1)), api.ErrUnsupported, nil},
		{"model", with(message(8, text(1, "ai.onnx")), message(8, number(2, 17))), api.OK, none},
		{"model", with(message(8, number(2, 17)), message(8, text(1, "ai.onnx"))), api.ErrUnsupported, nil},
		{"model", with(data(8, 16), data(8, 17)), api.ErrMalformed, nil},
		{"graph", with(data(1, 34), data(1, 1, 'A')), api.ErrMalformed, nil},
	} {
		c.run(t, "single messages")
	}
	for _, c := range []struct {
		l    []part
		err  api.Errno
		want api.Tensor
	}{
		{parts(message(5, number(2, 9)), message(5, data(9, 1)), number(20, 4)), api.OK, api.Tensor{Type: api.Bool, B: []bool{true}}},
		{parts(message(5, number(2, 9), data(9, 1)), data(5), number(20, 4)), api.OK, api.Tensor{Type: api.Bool, B: []bool{true}}},
		{parts(message(5, number(2, 9)), number(20, 4), data(5, 74), data(5, 1), data(5, 0)), api.OK, api.Tensor{Type: api.Bool, B: []bool{false}}},
		{parts(message(5, number(2, 9), data(9, 1)), message(5, number(1, 2), data(9, 1, 0)), number(20, 4)), api.OK, api.Tensor{Type: api.Bool, Dims: dims(2), B: []bool{true, false}}},
		{parts(data(5), number(20, 4)), api.ErrMalformed, api.Tensor{}},
		{parts(number(20, 4)), api.ErrMalformed, api.Tensor{}},
	} {
		try{"attribute", only(c.l...), c.err, func(m *api.Model) { *firstAttr(m) = api.Attr{Kind: 4, T: c.want} }}.run(t, "a tensor by parts")
	}
}

// Sets: the last one of the known domain tells.
func TestSets(t *testing.T) {
	set := func(l ...part) part { return message(8, l...) }
	other, otherOld := set(text(1, "other"), number(2, 17)), set(text(1, "ai.onnx.ml"), number(2, 3))
	for _, c := range []struct {
		sets []part
		err  api.Errno
	}{
		{nil, api.ErrUnsupported}, {parts(set()), api.ErrUnsupported}, {parts(other), api.ErrUnsupported}, {parts(otherOld), api.ErrUnsupported},
		{parts(set(number(2, 17))), api.OK}, {parts(set(text(1, ""), number(2, 17))), api.OK}, {parts(set(text(1, "ai.onnx"), number(2, 17))), api.OK},
		{parts(set(number(2, 16))), api.ErrUnsupported}, {parts(set(number(2, 18))), api.ErrUnsupported}, {parts(set(number(2, -17))), api.ErrUnsupported},
		{parts(set(number(2, 17+1<<32))), api.ErrUnsupported}, {parts(set(number(2, 17+1<<8))), api.ErrUnsupported}, {parts(set(number(2, -1<<63+17))), api.ErrUnsupported},
		{parts(set(text(1, "ai.onnx"))), api.ErrUnsupported}, {parts(set(text(1, "AI.onnx"), number(2, 17))), api.ErrUnsupported}, {parts(set(text(1, "ai.onnx "), number(2, 17))), api.ErrUnsupported},
		{parts(set(text(1, "ai.onn"), number(2, 17))), api.ErrUnsupported}, {parts(set(text(1, "\x00"), number(2, 17))), api.ErrUnsupported},
		{parts(set(number(2, 16)), set(number(2, 17))), api.OK}, {parts(set(number(2, 17)), set(number(2, 16))), api.ErrUnsupported},
		{parts(set(number(2, 17)), set(text(1, "ai.onnx"), number(2, 16))), api.ErrUnsupported}, {parts(set(text(1, "ai.onnx"), number(2, 16)), set(number(2, 17))), api.OK},
		{parts(set(number(2, 17)), other, otherOld), api.OK}, {parts(other, otherOld, set(number(2, 17))), api.OK}, {parts(otherOld, set(number(2, 17)), set(text(1, long(5000)))), api.OK},
		{parts(set(number(2, 17)), set()), api.ErrUnsupported}, {parts(set(), set(number(2, 17))), api.OK},
		{parts(such(66, 1, 8), set(number(2, 17))), api.ErrMalformed}, {parts(set(number(2, 17)), such(66, 1, 16)), api.ErrMalformed},
		{parts(set(text(1, "other"), text(2, "")), set(number(2, 17))), api.ErrMalformed}, {parts(set(number(1, 0), number(2, 17))), api.ErrMalformed},
		{many(5000, other), api.ErrUnsupported}, {append(many(5000, other), set(number(2, 17))), api.OK},
	} {
		try{"model", both(without(8), with(c.sets...)), c.err, nil}.run(t, "sets")
		try{"model", both(without(8), ahead(c.sets...)), c.err, nil}.run(t, "sets ahead")
	}
}

// The kinds, types, domains and places that are not known.
func TestStrange(t *testing.T) {
	for _, kind := range ints(5, 8, 9, 10, 11, 12, 13, 14, 15, 20, 100, -1, -2, 1<<32, 1<<32+1, 1<<32+2, 256+2, 1<<63-1, -1<<63, -1<<63+2) {
		try{"attribute", instead(20, number(20, kind)), api.ErrUnsupported, nil}.run(t, "kind")
	}
	for _, kind := range ints(2, 3, 4, 5, 6, 8, 10, 11, 12, 13, 14, 15, 16, 17, -1, -7, 1<<32+1, 1<<32+7, 256+9, 1<<63-1, -1<<63, -1<<63+1) {
		for _, place := range []string{"constant", "attributeTensor"} {
			try{place, instead(2, number(2, kind)), api.ErrUnsupported, nil}.run(t, "type")
		}
		try{"typed", instead(1, number(1, kind)), api.ErrUnsupported, nil}.run(t, "type of a value")
		try{"input", instead(2, message(2, message(1, number(1, kind), message(2)))), api.ErrUnsupported, nil}.run(t, "type of a value")
	}
	for _, place := range []string{"constant", "attributeTensor"} {
		try{place, instead(2, number(2, 0)), api.ErrMalformed, nil}.run(t, "type 0")
		for _, at := range ints(1, 2, -1, 1<<32, 1<<63-1, -1<<63) {
			try{place, with(number(14, at)), api.ErrUnsupported, nil}.run(t, "place")
		}
		try{place, with(number(14, 0)), api.OK, nil}.run(t, "place")
		for _, seg := range parts(data(3), data(3, 1, 2), message(3, number(1, 0), number(2, 1)), data(3, 255)) {
			try{place, with(seg), api.ErrUnsupported, nil}.run(t, "segment")
		}
	}
	try{"typed", instead(1, number(1, 0)), api.ErrUnsupported, nil}.run(t, "type 0 of a value")
	for _, sparse := range parts(data(15), data(15, 255), message(15, number(1, 0))) {
		try{"graph", with(sparse), api.ErrUnsupported, nil}.run(t, "15")
		try{"graph", ahead(sparse), api.ErrUnsupported, nil}.run(t, "15")
	}
	for domain, err := range map[string]api.Errno{"": api.OK, "ai.onnx": api.OK, "ai.onnx.ml": api.ErrUnsupported, "ai": api.ErrUnsupported, " ": api.ErrUnsupported, "Ai.onnx": api.ErrUnsupported, "\x00": api.ErrUnsupported, long(300): api.ErrUnsupported} {
		try{"node", instead(7, text(7, domain)), err, nil}.run(t, "domain")
	}
	// Sorts that are no tensor, and dims by a name.
	try{"sort", only(message(4, message(1))), api.ErrUnsupported, nil}.run(t, "another sort")
	try{"dim", only(text(2, "N")), api.ErrUnsupported, nil}.run(t, "a dim by a name")
	try{"dim", with(text(2, "N")), api.OK, nil}.run(t, "a dim by a number and a name")
	try{"dim", instead(1, number(1, 0)), api.OK, func(m *api.Model) { m.Outputs[0].Dims[0] = 0 }}.run(t, "dim 0")
	for _, d := range ints(-1, -2, -1<<63, -1<<32) {
		try{"dim", instead(1, number(1, d)), api.ErrMalformed, nil}.run(t, "a dim below 0")
	}
}

// Each kind of attribute: the field that it names counts, what else stands there is looked at and left out.
func TestKinds(t *testing.T) {
	all := parts(text(1, "k"), four(2, 0x7F800001), number(3, -3), text(4, "\xff\x00s"), message(5, packed(1, 1, 2), number(2, 1), fixed(9, 1, 0xFFC00000)), fixed(7, 0x80000000, 7), packed(8, -8, 0, 1<<62))
	named := map[int64]func(*api.Attr){
		1: func(a *api.Attr) { a.F = 0x7F800001 },
		2: func(a *api.Attr) { a.I = -3 },
		3: func(a *api.Attr) { a.S = "\xff\x00s" },
		4: func(a *api.Attr) { a.T = api.Tensor{Type: api.Float, Dims: dims(1, 2), F: floats(1, 0xFFC00000)} },
		6: func(a *api.Attr) { a.Floats = floats(0x80000000, 7) },
		7: func(a *api.Attr) { a.Ints = ints(-8, 0, 1<<62) },
	}
	field := map[int64]int{1: 2, 2: 3, 3: 4, 4: 5, 6: 7, 7: 8}
	for kind, set := range named {
		want := func(m *api.Model) {
			*firstAttr(m) = api.Attr{Name: "k", Kind: int(kind)}
			set(firstAttr(m))
		}
		l := append(slices.Clone(all), number(20, kind))
		try{"attribute", only(l...), api.OK, want}.run(t, "all fields")
		try{"attribute", only(backwards(l)...), api.OK, want}.run(t, "all fields backwards")
		for num := range 30 {
			switch {
			case num == 1 || num == 20:
			case num != field[kind]:
				try{"attribute", both(only(l...), without(num)), api.OK, want}.run(t, "all but one")
			case kind == 4:
				try{"attribute", both(only(l...), without(num)), api.ErrMalformed, nil}.run(t, "no tensor")
			default:
				try{"attribute", both(only(l...), without(num)), api.OK, func(m *api.Model) { *firstAttr(m) = api.Attr{Name: "k", Kind: int(kind)} }}.run(t, "not the one")
			}
		}
		for _, bad := range []struct {
			p   part
			err api.Errno
		}{
			{text(4, long(4097)), api.ErrLimit}, {fixed(7, many(4097, uint32(0))...), api.ErrLimit}, {packed(8, many(4097, int64(0))...), api.ErrLimit},
			{data(7, 1, 2, 3), api.ErrMalformed}, {data(8, 128), api.ErrMalformed}, {data(5, 8), api.ErrMalformed}, {message(5, number(2, 0)), api.ErrMalformed}, {message(5, number(2, 5)), api.ErrUnsupported},
			{message(5, number(1, 2)), api.ErrMalformed}, {message(5, number(14, 1)), api.ErrUnsupported}, {message(5, data(3)), api.ErrUnsupported}, {message(5, text(8, long(257))), api.ErrLimit},
			{message(5, number(1, 4096)), api.ErrLimit}, {message(5, number(1, -1)), api.ErrMalformed}, {message(5, number(7, 1)), api.ErrMalformed},
		} {
			try{"attribute", with(append(l, bad.p)...), bad.err, nil}.run(t, "a field that may not be")
		}
	}
	// Without a kind that is known these fields are looked at, too.
	try{"attribute", only(append(all, number(20, 5))...), api.ErrUnsupported, nil}.run(t, "no kind")
	try{"attribute", only(append(all, number(20, 5), data(7, 1))...), api.ErrMalformed, nil}.run(t, "no kind")
	try{"attribute", only(append(all, number(20, 5), message(5, number(1, -1)))...), api.ErrMalformed, nil}.run(t, "no kind")
}

// Names and texts are rows of any bytes.
func TestNamesOfAnyBytes(t *testing.T) {
	for _, name := range []string{"\x00", "\xff\xfe", "\xed\xa0\x80", "a\nb", "é", long(256), strings.Repeat("\x80", 256)} {
		try{"graph", instead(2, text(2, name)), api.OK, func(m *api.Model) { m.Name = name }}.run(t, "name")
		try{"node", instead(1, text(1, name)), api.OK, func(m *api.Model) { firstNode(m).In = []string{name} }}.run(t, "name")
		try{"node", instead(2, text(2, name)), api.OK, func(m *api.Model) { firstNode(m).Out = []string{name} }}.run(t, "name")
		try{"node", instead(3, text(3, name)), api.OK, func(m *api.Model) { firstNode(m).Name = name }}.run(t, "name")
		try{"node", instead(4, text(4, name)), api.OK, func(m *api.Model) { firstNode(m).Op = name }}.run(t, "name")
		try{"attribute", instead(1, text(1, name)), api.OK, func(m *api.Model) { firstAttr(m).Name = name }}.run(t, "name")
		try{"attribute", only(text(4, name), number(20, 3)), api.OK, func(m *api.Model) { *firstAttr(m) = api.Attr{Kind: 3, S: name} }}.run(t, "text")
		try{"constant", instead(8, text(8, name)), api.OK, func(m *api.Model) { m.Inits[0].Name = name }}.run(t, "name")
		try{"input", instead(1, text(1, name)), api.OK, func(m *api.Model) { m.Inputs[0].Name = name }}.run(t, "name")
		try{"output", instead(1, text(1, name)), api.OK, func(m *api.Model) { m.Outputs[0].Name = name }}.run(t, "name")
	}
}
