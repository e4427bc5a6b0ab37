package ops_test

import (
	"fmt"
	"maps"
	"math"
	"reflect"
	"slices"
	"strings"
	"testing"

	"lattice/api"
	"lattice/ops"
)

// names are n of them, each another.
func names(start string, n int) []string {
	var list []string
	for i := range n {
		list = append(list, fmt.Sprint(start, i))
	}
	return list
}

func node(op string, in, out int, attrs ...api.Attr) api.Node {
	return api.Node{Op: op, Name: "n", In: names("in", in), Out: names("out", out), Attrs: attrs}
}

// Attributes of each kind.
func float(name string, bits uint32) api.Attr {
	return api.Attr{Name: name, Kind: api.AttrFloat, F: bits}
}

func number(name string, n int64) api.Attr { return api.Attr{Name: name, Kind: api.AttrInt, I: n} }

func text(name, s string) api.Attr { return api.Attr{Name: name, Kind: api.AttrText, S: s} }

func tensor(name string, t api.Tensor) api.Attr {
	return api.Attr{Name: name, Kind: api.AttrTensor, T: t}
}

func floats(name string, list ...uint32) api.Attr {
	return api.Attr{Name: name, Kind: api.AttrFloats, Floats: list}
}

func numbers(name string, list ...int64) api.Attr {
	return api.Attr{Name: name, Kind: api.AttrInts, Ints: list}
}

// needed are the attributes without which an operator may not be, each at something that it may be.
func needed(r wantRow) []api.Attr {
	var list []api.Attr
	for _, w := range r.attrs {
		switch {
		case w.must && w.name == "to":
			list = append(list, number("to", api.Int))
		case w.must && w.name == "axis":
			list = append(list, number("axis", 1))
		case w.must && w.name == "blocksize":
			list = append(list, number("blocksize", 2))
		case w.must && w.name == "kernel_shape":
			list = append(list, numbers("kernel_shape", 3, 2))
		case w.must:
			panic("another one that must be there: " + w.name)
		}
	}
	if r.name == "Constant" {
		list = append(list, number("value_int", 5))
	}
	return list
}

// with is the node of an operator that has all that it needs, and this attribute in the place of one of its name.
func with(r wantRow, given ...api.Attr) api.Node {
	n := node(r.name, r.leastIn, r.leastOut, given...)
	if r.name == "Constant" && len(given) > 0 {
		return n
	}
	for _, a := range needed(r) {
		if !slices.ContainsFunc(given, func(g api.Attr) bool { return g.Name == a.Name }) {
			n.Attrs = append(n.Attrs, a)
		}
	}
	return n
}

// times is a list of one number over and over.
func times[E any](n int, e E) []E {
	list := make([]E, n)
	for i := range list {
		list[i] = e
	}
	return list
}

// fits are attributes that may be, of the sort: the ends of it, and some between.
func fits(op string, w wantAttr) []api.Attr {
	var list []api.Attr
	wholes := func(all ...int64) {
		for _, n := range all {
			list = append(list, number(w.name, n))
		}
	}
	// Lists of each length, with the ends and one between at each place.
	lists := func(most int, all ...int64) {
		for n := range most + 1 {
			for i := range all {
				l := make([]int64, n)
				for at := range l {
					l[at] = all[(at+i)%len(all)]
				}
				list = append(list, numbers(w.name, l...))
			}
		}
	}
	switch w.sort {
	case "float":
		for _, bits := range []uint32{0, 1, 0x3f800000, 0x80000000, 0x7f800000, 0xff800000, 0x7fc00000, 0x7f800001, math.MaxUint32} {
			list = append(list, float(w.name, bits))
		}
	case "flag":
		wholes(0, 1)
	case "zero":
		wholes(0)
	case "one":
		wholes(1)
	case "axis":
		wholes(-8, -7, -1, 0, 1, 7, 8)
	case "int":
		wholes(math.MinInt64, math.MinInt64+1, math.MinInt32-1, -1, 0, 1, 3, math.MaxInt32+1, math.MaxInt64)
	case "size":
		wholes(1, 2, 4095, 4096)
	case "type":
		wholes(1, 7, 9)
	case "text":
		for _, s := range slices.Sorted(maps.Keys(wantTexts(op, w.name))) {
			list = append(list, text(w.name, s))
		}
	case "tensor":
		for _, t := range anyTensors() {
			list = append(list, tensor(w.name, t))
		}
	case "single":
		for _, t := range singles() {
			list = append(list, tensor(w.name, t))
		}
	case "floats":
		for _, n := range []int{0, 1, 3, 4095, 4096} {
			list = append(list, floats(w.name, times(n, uint32(0x7f800001+n))...))
		}
	case "ints":
		for _, n := range []int{0, 1, 3, 4095, 4096} {
			list = append(list, numbers(w.name, times(n, int64(n)-3)...))
		}
		list = append(list, numbers(w.name, math.MinInt64, 0, math.MaxInt64))
	case "places":
		lists(8, 0, 7, 3, 1)
	case "axes":
		lists(8, -8, 8, 0, -1, 5)
	case "sizes":
		lists(8, 1, 4096, 3)
	case "pads":
		lists(16, 0, 4096, 1)
	}
	return list
}

// beyond are attributes of the sort's own kind that may not be.
func beyond(op string, w wantAttr) []api.Attr {
	var list []api.Attr
	wholes := func(all ...int64) {
		for _, n := range append(all, math.MinInt64, math.MaxInt64, 1<<32, 1<<32+1, -1<<32) {
			list = append(list, number(w.name, n))
		}
	}
	// One that is beyond at each place of a list, and lists that are too long.
	lists := func(most int, fine int64, all ...int64) {
		for _, n := range append(all, math.MinInt64, math.MaxInt64, 1<<32, 1<<32+1) {
			for _, length := range []int{1, 2, most} {
				for at := range length {
					l := times(length, fine)
					l[at] = n
					list = append(list, numbers(w.name, l...))
				}
			}
		}
		for _, length := range []int{most + 1, most + 2, 4096} {
			list = append(list, numbers(w.name, times(length, fine)...))
		}
	}
	switch w.sort {
	case "flag":
		wholes(-1, 2, 256)
	case "zero":
		wholes(-1, 1, 2)
	case "one":
		wholes(-1, 0, 2)
	case "axis":
		wholes(-9, 9, 10, -10)
	case "size":
		wholes(0, -1, 4097, 5000)
	case "type":
		wholes(-1, 0, 2, 3, 4, 5, 6, 8, 10, 11, 16)
	case "text":
		for _, s := range wrongTexts(op, w) {
			list = append(list, text(w.name, s))
		}
	case "single":
		for _, t := range notSingles() {
			list = append(list, tensor(w.name, t))
		}
	case "floats":
		list = append(list, floats(w.name, make([]uint32, 4097)...), floats(w.name, make([]uint32, 9000)...))
	case "ints":
		list = append(list, numbers(w.name, make([]int64, 4097)...), numbers(w.name, make([]int64, 9000)...))
	case "places":
		lists(8, 2, -1, 8, 9)
	case "axes":
		lists(8, 2, -9, 9)
	case "sizes":
		lists(8, 2, 0, -1, 4097)
	case "pads":
		lists(16, 2, -1, 4097)
	}
	return list
}

// wrongTexts are texts that are none of the attribute's: near ones, and those of all other attributes.
func wrongTexts(op string, w wantAttr) []string {
	list := []string{"", " ", "x", "SAME", "\x00", "wrap", "max", "min"}
	for _, other := range []string{"ScatterElements reduction", "Pad mode", "DepthToSpace mode", "Conv auto_pad"} {
		first, second, _ := strings.Cut(other, " ")
		for s := range wantTexts(first, second) {
			list = append(list, s, s+" ", s[1:], strings.ToUpper(s), strings.ToLower(s))
		}
	}
	slices.Sort(list)
	own := wantTexts(op, w.name)
	return slices.DeleteFunc(slices.Compact(list), func(s string) bool { _, is := own[s]; return is })
}

// anyTensors are tensors that may be, and some that may not.
func anyTensors() []api.Tensor {
	return append(append(singles(), notSingles()...),
		api.Tensor{Type: api.Float, Dims: []int{4096}, F: make([]uint32, 4096)},
		api.Tensor{Type: 3, Dims: []int{-1, math.MaxInt, math.MinInt}, I: []int64{1, 2}, B: []bool{true}},
		api.Tensor{Type: math.MinInt, Dims: make([]int, 20)},
	)
}

// singles are tensors of just one element, whatever their types and dims.
func singles() []api.Tensor {
	return []api.Tensor{
		{Type: api.Float, Dims: []int{1}, F: []uint32{0}},
		{Type: api.Float, Dims: []int{1}, F: []uint32{0x7f800001}},
		{Type: api.Float, F: []uint32{5}},
		{Type: api.Int, Dims: []int{1, 1}, I: []int64{math.MinInt64}},
		{Type: api.Bool, Dims: []int{1}, B: []bool{true}},
		{Type: api.Bool, Dims: []int{7, 3}, B: []bool{false}},
		{Type: api.Float, I: []int64{3}},
		{Type: 0, B: []bool{true}, F: []uint32{}},
		{Type: -5, Dims: []int{-2}, F: []uint32{7}},
	}
}

// notSingles are tensors of none or more.
func notSingles() []api.Tensor {
	return []api.Tensor{
		{},
		{Type: api.Float, Dims: []int{1}},
		{Type: api.Float, Dims: []int{0}, F: []uint32{}, I: []int64{}, B: []bool{}},
		{Type: api.Float, Dims: []int{2}, F: []uint32{1, 2}},
		{Type: api.Int, Dims: []int{1}, I: []int64{1, 2}},
		{Type: api.Bool, Dims: []int{1}, B: []bool{true, true}},
		{Type: api.Float, Dims: []int{1}, F: []uint32{1}, I: []int64{1}},
		{Type: api.Float, Dims: []int{1}, F: []uint32{1}, B: []bool{false}},
		{Type: api.Int, Dims: []int{1}, I: []int64{1}, B: []bool{false}},
		{Type: api.Int, Dims: []int{1}, F: []uint32{1}, I: []int64{1}, B: []bool{false}},
	}
}

// plain is a setting whose lists without elements are nil.
func plain(s api.Setting) api.Setting {
	for _, l := range []*[]int{&s.Axes, &s.Perm, &s.Kernel, &s.Strides, &s.Pads, &s.Dilations, &s.Value.Dims} {
		*l = noneIsNil(*l)
	}
	s.Value.F, s.Value.I, s.Value.B = noneIsNil(s.Value.F), noneIsNil(s.Value.I), noneIsNil(s.Value.B)
	return s
}

func noneIsNil[E any](list []E) []E {
	if len(list) == 0 {
		return nil
	}
	return list
}

func alike(a, b api.Setting) bool { return reflect.DeepEqual(plain(a), plain(b)) }

// short is a text that is not too long to be told.
func short(v any) string {
	s := fmt.Sprintf("%+v", v)
	if len(s) > 300 {
		s = s[:300] + " .."
	}
	return s
}

// check holds what Resolve answers against what it should.
func check(t *testing.T, n api.Node, op int, s api.Setting, err api.Errno) {
	t.Helper()
	gotOp, got, gotErr := ops.Resolve(n)
	if gotOp != op || !alike(got, s) || gotErr != err {
		t.Errorf("Resolve of %s:\n%d, %s, %v;\nwant %d, %s, %v", short(n), gotOp, short(got), gotErr, op, short(s), err)
	}
}

// checkErr holds an error against what Resolve answers.
func checkErr(t *testing.T, n api.Node, err api.Errno) {
	t.Helper()
	check(t, n, 0, api.Setting{}, err)
}

// checkAsWanted holds Resolve against the other way to write it.
func checkAsWanted(t *testing.T, n api.Node) {
	t.Helper()
	op, s, err := wantResolve(n)
	check(t, n, op, s, err)
}
