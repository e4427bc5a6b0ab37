package onnx_test

import (
	"math"
	"slices"
	"testing"

	"lattice/api"
	"lattice/onnx"
	"lattice/seeds"
)

// wantChecked asks what Check and Encode say of a model that was changed.
func wantChecked(t *testing.T, what string, change func(*api.Model), want api.Errno) {
	t.Helper()
	m := changed(change)
	if err := onnx.Check(m); err != want {
		t.Errorf("Check, %s: %v, want %v", what, err, want)
	}
	if err := wantCheck(m); err != want {
		t.Errorf("the other Check, %s: %v, want %v", what, err, want)
	}
	if want == api.OK {
		wantBytes(t, what, wantEncode(m), api.OK)(onnx.Encode(m))
		return
	}
	wantBytes(t, what, nil, want)(onnx.Encode(m))
}

// P7.3: models that may be written.
func TestCheckTakes(t *testing.T) {
	wantChecked(t, "the right one", func(*api.Model) {}, api.OK)
	wantChecked(t, "nothing but a version", func(m *api.Model) { *m = api.Model{Opset: 17} }, api.OK)
	wantChecked(t, "lists that are empty", func(m *api.Model) {
		*m = api.Model{Opset: 17, Nodes: []api.Node{}, Inits: []api.Init{}, Inputs: []api.Value{}, Outputs: []api.Value{}}
	}, api.OK)
	wantChecked(t, "names that are empty", func(m *api.Model) {
		m.Name, m.Inits[0].Name, m.Inputs[0].Name, m.Outputs[0].Name = "", "", "", ""
		firstNode(m).Name, firstNode(m).In, firstAttr(m).Name = "", []string{"", ""}, ""
	}, api.OK)
	wantChecked(t, "zero lists that are none", func(m *api.Model) {
		firstAttr(m).Floats, firstAttr(m).Ints = floats(), ints()
		firstAttr(m).T = api.Tensor{Dims: dims(), F: floats(), I: ints(), B: []bool{}}
		m.Inits[0].T.F, m.Inits[0].T.B = floats(), []bool{}
	}, api.OK)
}

// P7.3: the version, operators, and types.
func TestCheckRefuses(t *testing.T) {
	for _, version := range ints(0, 1, 16, 18, -17, 17+1<<32, 17+1<<8, math.MinInt64, math.MaxInt64) {
		wantChecked(t, "another version", func(m *api.Model) { m.Opset = version }, api.ErrArg)
	}
	wantChecked(t, "no operator", func(m *api.Model) { m.Nodes[0].Op = "" }, api.ErrArg)
	wantChecked(t, "no operator of the last one", func(m *api.Model) { m.Nodes[1].Op = "" }, api.ErrArg)
	for _, kind := range dims(0, 2, 3, 4, 5, 6, 8, 10, -1, -7, 1+1<<32, 7+1<<8, math.MinInt, math.MaxInt) {
		wantChecked(t, "no type of a constant", func(m *api.Model) { m.Inits[0].T.Type = kind }, api.ErrArg)
		wantChecked(t, "no type of an attribute's tensor", func(m *api.Model) { m.Nodes[0].Attrs[1].T.Type = kind }, api.ErrArg)
		wantChecked(t, "no type of an input", func(m *api.Model) { m.Inputs[0].Type = kind }, api.ErrArg)
		wantChecked(t, "no type of an output", func(m *api.Model) { m.Outputs[0].Type = kind }, api.ErrArg)
		wantChecked(t, "no type, and no elements", func(m *api.Model) { m.Inits[0].T = api.Tensor{Type: kind} }, api.ErrArg)
		wantChecked(t, "no type, and too many dims", func(m *api.Model) { m.Inits[0].T = api.Tensor{Type: kind, Dims: many(9, 1)} }, api.ErrArg)
		wantChecked(t, "no type of a value, and too many dims", func(m *api.Model) { m.Inputs[0] = api.Value{Type: kind, Dims: many(9, 1)} }, api.ErrArg)
	}
	for _, kind := range dims(1, 7, 9) {
		wantChecked(t, "a type of a value", func(m *api.Model) { m.Inputs[0].Type = kind }, api.OK)
	}
}

// attrFields are each of an attribute's that a kind may name, with what is not zero in it.
func attrFields() map[int][]func(*api.Attr) {
	return map[int][]func(*api.Attr){
		1: {func(a *api.Attr) { a.F = 1 }, func(a *api.Attr) { a.F = 0x80000000 }},
		2: {func(a *api.Attr) { a.I = 1 }, func(a *api.Attr) { a.I = math.MinInt64 }},
		3: {func(a *api.Attr) { a.S = "s" }, func(a *api.Attr) { a.S = "\x00" }},
		4: {func(a *api.Attr) { a.T.Type = 1 }, func(a *api.Attr) { a.T.Type = -1 }, func(a *api.Attr) { a.T.Dims = dims(0) }, func(a *api.Attr) { a.T.F = floats(0) }, func(a *api.Attr) { a.T.I = ints(0) }, func(a *api.Attr) { a.T.B = []bool{false} }},
		6: {func(a *api.Attr) { a.Floats = floats(0) }},
		7: {func(a *api.Attr) { a.Ints = ints(0) }},
	}
}

// P7.3: a kind that is none, and fields that the kind does not name.
func TestCheckAttributes(t *testing.T) {
	right := map[int]api.Attr{
		1: {Kind: 1, F: 5}, 2: {Kind: 2, I: -5}, 3: {Kind: 3, S: "five"}, 4: {Kind: 4, T: api.Tensor{Type: api.Float, F: floats(5)}}, 6: {Kind: 6, Floats: floats(5)}, 7: {Kind: 7, Ints: ints(5)},
	}
	for kind, a := range right {
		wantChecked(t, "each kind", func(m *api.Model) { *firstAttr(m) = a }, api.OK)
		if kind != 4 {
			wantChecked(t, "each kind of nothing", func(m *api.Model) { *firstAttr(m) = api.Attr{Kind: kind} }, api.OK)
		}
		for other, sets := range attrFields() {
			for _, set := range sets {
				if other == kind {
					continue
				}
				wantChecked(t, "a field that the kind does not name", func(m *api.Model) { set(&a); *firstAttr(m) = a }, api.ErrArg)
				a = right[kind]
				wantChecked(t, "the same in the last attribute", func(m *api.Model) {
					set(&a)
					firstNode(m).Attrs[1] = a
				}, api.ErrArg)
				a = right[kind]
			}
		}
		for _, none := range dims(0, 5, 8, 9, 10, 11, -1, kind+1<<32, kind+1<<8, -kind, math.MinInt, math.MaxInt) {
			wantChecked(t, "no kind", func(m *api.Model) { *firstAttr(m) = a; firstAttr(m).Kind = none }, api.ErrArg)
			wantChecked(t, "no kind, and nothing", func(m *api.Model) { *firstAttr(m) = api.Attr{Kind: none} }, api.ErrArg)
		}
	}
	wantChecked(t, "no tensor", func(m *api.Model) { *firstAttr(m) = api.Attr{Kind: 4} }, api.ErrArg)
}

// P7.3: the list of a tensor's type has as many elements as its dims say, the others have none.
func TestCheckTensors(t *testing.T) {
	tensors := map[string]func(*api.Model) *api.Tensor{
		"constant":  func(m *api.Model) *api.Tensor { return &m.Inits[0].T },
		"attribute": func(m *api.Model) *api.Tensor { return &m.Nodes[0].Attrs[1].T },
	}
	for name, at := range tensors {
		for _, kind := range ints(1, 7, 9) {
			for _, d := range [][]int{nil, {0}, {1}, {3}, {2, 2}, {0, 5000}, many(8, 1), {4096}, {5000, math.MaxInt, 0}} {
				n, _ := wantCount(d)
				for _, size := range dims(n-1, n, n+1, 0, 1) {
					if size < 0 {
						continue
					}
					want := api.ErrArg
					if size == n {
						want = api.OK
					}
					wantChecked(t, name+" of its list", func(m *api.Model) { *at(m) = ones(kind, d, size) }, want)
					for _, other := range ints(1, 7, 9) {
						if other == kind {
							continue
						}
						more := ones(other, nil, max(1, size))
						wantChecked(t, name+" of two lists", func(m *api.Model) {
							*at(m) = ones(kind, d, size)
							at(m).F, at(m).I, at(m).B = append(at(m).F, more.F...), append(at(m).I, more.I...), append(at(m).B, more.B...)
						}, api.ErrArg)
						if size > 0 {
							wantChecked(t, name+" of another list", func(m *api.Model) { *at(m) = ones(other, d, size); at(m).Type = int(kind) }, api.ErrArg)
						}
					}
				}
			}
			// Where the dims are too much the elements are not looked at; where one is below 0 they need not be.
			for _, d := range [][]int{{4097}, many(9, 1), many(9, 0), {64, 65}, {1 << 32, 1 << 32}, {math.MaxInt, 2}} {
				for _, lists := range []api.Tensor{{}, ones(1, nil, 1), ones(7, nil, 1), ones(9, nil, 1), ones(1, nil, 4097)} {
					lists.Type, lists.Dims = int(kind), d
					wantChecked(t, name+" of too much", func(m *api.Model) { *at(m) = lists }, api.ErrLimit)
					lists.Dims = append(slices.Clone(d), -1)
					wantChecked(t, name+" of too much below 0", func(m *api.Model) { *at(m) = lists }, api.ErrArg)
				}
			}
			for _, d := range [][]int{{-1}, {0, -1}, {math.MinInt, 0}, {1, 1, -1}} {
				for size := range 2 {
					wantChecked(t, name+" below 0", func(m *api.Model) { *at(m) = ones(kind, d, size) }, api.ErrArg)
				}
			}
		}
	}
	for _, at := range []func(*api.Model) *api.Value{func(m *api.Model) *api.Value { return &m.Inputs[0] }, func(m *api.Model) *api.Value { return &m.Outputs[0] }} {
		for _, d := range [][]int{nil, {0}, {4096}, {64, 64}, many(8, 1), {0, math.MaxInt, 9}, {4097}, {64, 65}, many(9, 1), many(9, 0), {1 << 62, 4}, {-1}, {0, -1}, {4097, -1}, append(many(9, 1), -2)} {
			_, want := wantCount(d)
			wantChecked(t, "a value's dims", func(m *api.Model) { at(m).Dims = d }, want)
		}
	}
}

// excess is each thing that may be too much, at a size.
func excess() map[string]struct {
	most int
	set  func(*api.Model, int)
} {
	type row = struct {
		most int
		set  func(*api.Model, int)
	}
	value := api.Value{Name: "v", Type: api.Float}
	return map[string]row{
		"nodes": {1024, func(m *api.Model, n int) { m.Nodes = append(m.Nodes, many(n-len(m.Nodes), api.Node{Op: "A"})...) }},
		"constants": {1024, func(m *api.Model, n int) {
			m.Inits = append(m.Inits, many(n-1, api.Init{T: api.Tensor{Type: 9, Dims: dims(0)}})...)
		}},
		"inputs":            {64, func(m *api.Model, n int) { m.Inputs = append(m.Inputs, many(n-1, value)...) }},
		"outputs":           {64, func(m *api.Model, n int) { m.Outputs = append(m.Outputs, many(n-1, value)...) }},
		"a node's inputs":   {64, func(m *api.Model, n int) { m.Nodes[1].In = many(n, "") }},
		"a node's outputs":  {64, func(m *api.Model, n int) { m.Nodes[1].Out = many(n, "") }},
		"attributes":        {64, func(m *api.Model, n int) { m.Nodes[1].Attrs = many(n, api.Attr{Kind: 1}) }},
		"a name":            {256, func(m *api.Model, n int) { m.Name = long(n) }},
		"a node's name":     {256, func(m *api.Model, n int) { m.Nodes[1].Name = long(n) }},
		"an operator":       {256, func(m *api.Model, n int) { m.Nodes[1].Op = long(n) }},
		"an input's name":   {256, func(m *api.Model, n int) { m.Nodes[1].In = []string{"", long(n)} }},
		"an output's name":  {256, func(m *api.Model, n int) { m.Nodes[1].Out = []string{"", long(n)} }},
		"an attribute's":    {256, func(m *api.Model, n int) { m.Nodes[0].Attrs[1].Name = long(n) }},
		"a constant's name": {256, func(m *api.Model, n int) { m.Inits[0].Name = long(n) }},
		"a value's name":    {256, func(m *api.Model, n int) { m.Inputs[0].Name = long(n) }},
		"another value's":   {256, func(m *api.Model, n int) { m.Outputs[0].Name = long(n) }},
		"a text":            {4096, func(m *api.Model, n int) { *firstAttr(m) = api.Attr{Kind: 3, S: long(n)} }},
		"floats":            {4096, func(m *api.Model, n int) { *firstAttr(m) = api.Attr{Kind: 6, Floats: make([]uint32, n)} }},
		"numbers":           {4096, func(m *api.Model, n int) { *firstAttr(m) = api.Attr{Kind: 7, Ints: make([]int64, n)} }},
		"elements":          {4096, func(m *api.Model, n int) { m.Inits[0].T = ones(1, dims(n), n) }},
		"dims":              {8, func(m *api.Model, n int) { m.Inits[0].T = ones(9, many(n, 1), 1) }},
		"elements within":   {4096, func(m *api.Model, n int) { m.Nodes[0].Attrs[1].T = ones(7, dims(n), n) }},
		"dims within":       {8, func(m *api.Model, n int) { m.Nodes[0].Attrs[1].T = ones(7, many(n, 1), 1) }},
		"a value's dims":    {8, func(m *api.Model, n int) { m.Outputs[0].Dims = many(n, 1) }},
		"a value's count":   {4096, func(m *api.Model, n int) { m.Inputs[0].Dims = dims(n) }},
	}
}

// P7.3: each limit, and one more; what may not be comes ahead of it, wherever the two stand.
func TestCheckLimits(t *testing.T) {
	wrongs := []func(*api.Model){
		func(m *api.Model) { m.Opset = 16 },
		func(m *api.Model) { m.Nodes = append(m.Nodes, api.Node{}) },
		func(m *api.Model) { m.Nodes = append([]api.Node{{}}, m.Nodes...) },
		func(m *api.Model) { m.Nodes[len(m.Nodes)-1].Attrs = append(m.Nodes[len(m.Nodes)-1].Attrs, api.Attr{}) },
		func(m *api.Model) { m.Inits = append(m.Inits, api.Init{}) },
		func(m *api.Model) { m.Inits = append([]api.Init{{T: api.Tensor{Type: 1}}}, m.Inits...) },
		func(m *api.Model) { m.Inputs = append(m.Inputs, api.Value{}) },
		func(m *api.Model) { m.Outputs = append(m.Outputs, api.Value{Type: 1, Dims: dims(-1)}) },
	}
	for name, c := range excess() {
		for n := c.most - 1; n <= c.most+2; n++ {
			want := api.OK
			if n > c.most {
				want = api.ErrLimit
			}
			wantChecked(t, name, func(m *api.Model) { c.set(m, n) }, want)
		}
		for _, wrong := range wrongs {
			wantChecked(t, name+" and wrong", func(m *api.Model) { c.set(m, c.most+1); wrong(m) }, api.ErrArg)
		}
		for other, d := range excess() {
			if other > name {
				wantChecked(t, name+" and "+other, func(m *api.Model) { c.set(m, c.most+1); d.set(m, d.most+1) }, api.ErrLimit)
			}
		}
	}
}

// P7.3: any models, held against the chapter's words once more.
func TestCheckOfAny(t *testing.T) {
	s := seeds.Seed(41)
	seen := map[api.Errno]int{}
	for range 20000 {
		m := wildModel(&s)
		want := wantCheck(m)
		seen[want]++
		if err := onnx.Check(m); err != want {
			t.Fatalf("Check %s: %v, want %v", short(m), err, want)
		}
	}
	for _, err := range []api.Errno{api.OK, api.ErrArg, api.ErrLimit} {
		if seen[err] < 1000 {
			t.Errorf("%v only %d times", err, seen[err])
		}
	}
}
