package ewise_test

import (
	"fmt"
	"math"
	"slices"
	"strconv"
	"strings"
	"testing"

	"lattice/api"
	"lattice/ewise"
)

// This file holds what the tests try: tensors in few words.
//
// A tensor is a letter for its type (f, i, b), its dims, parted by dots, a colon, and its elements, parted by commas: floats as hexadecimal words, truths as 0 and 1. Where no dims are said, there is one, of as many elements; a dot alone says that there are none. An input that is left out is a line: -.

func tensor(word string) api.Tensor {
	if word == "-" {
		return api.Tensor{}
	}
	head, tail, found := strings.Cut(word[1:], ":")
	if !found {
		panic(word)
	}
	var list []string
	if tail != "" {
		list = strings.Split(tail, ",")
	}
	t := api.Tensor{Dims: []int{}}
	switch head {
	case "":
		t.Dims = []int{len(list)}
	case ".":
	default:
		for _, d := range strings.Split(head, ".") {
			t.Dims = append(t.Dims, int(number(d, 10)))
		}
	}
	for _, e := range list {
		switch word[0] {
		case 'f':
			t.F = append(t.F, uint32(number(e, 16)))
		case 'i':
			t.I = append(t.I, number(e, 10))
		case 'b':
			t.B = append(t.B, number(e, 10) == 1)
		}
	}
	t.Type = map[byte]int{'f': api.Float, 'i': api.Int, 'b': api.Bool}[word[0]]
	return t
}

func number(word string, base int) int64 {
	n, err := strconv.ParseInt(word, base, 64)
	if err != nil {
		panic(word)
	}
	return n
}

func tensors(text string) []api.Tensor {
	var list []api.Tensor
	for _, word := range strings.Fields(text) {
		list = append(list, tensor(word))
	}
	return list
}

// words tells a tensor as tensor takes it, or an error by its name.
func words(t api.Tensor, err api.Errno) string {
	if err != api.OK {
		return errName(err)
	}
	var list []string
	for _, f := range t.F {
		list = append(list, fmt.Sprintf("%08X", f))
	}
	for _, i := range t.I {
		list = append(list, strconv.FormatInt(i, 10))
	}
	for _, b := range t.B {
		list = append(list, map[bool]string{false: "0", true: "1"}[b])
	}
	letter := map[int]string{api.Float: "f", api.Int: "i", api.Bool: "b"}[t.Type]
	head := strings.ReplaceAll(strings.Trim(fmt.Sprint(t.Dims), "[]"), " ", ".")
	switch {
	case len(t.Dims) == 0:
		head = "."
	case len(t.Dims) == 1 && t.Dims[0] == len(list):
		head = ""
	}
	return letter + head + ":" + strings.Join(list, ",")
}

func errName(err api.Errno) string {
	all := map[api.Errno]string{api.ErrArg: "ErrArg", api.ErrPlace: "ErrPlace", api.ErrShape: "ErrShape", api.ErrSize: "ErrSize",
		api.ErrType: "ErrType", api.ErrAttr: "ErrAttr", api.ErrDivide: "ErrDivide"}
	if name, is := all[err]; is {
		return name
	}
	return err.Error()
}

// plain is the setting of an operator that has no attributes.
var plain api.Setting

// fmod is that of a Mod of a's sign.
var fmod = api.Setting{Fmod: true}

// gives: Do answers just that, and so does the chapter's second writing.
func gives(t *testing.T, op int, s api.Setting, in, want string) {
	t.Helper()
	answers(t, op, s, tensors(in), want)
}

func answers(t *testing.T, op int, s api.Setting, in []api.Tensor, want string) {
	t.Helper()
	got, err := ewise.Do(op, s, in)
	if w := words(got, err); w != want {
		t.Errorf("operator %d, %s, %s: %s, want %s", op, said(s), told(in), w, want)
	}
	if err != api.OK && !isZero(got) {
		t.Errorf("operator %d, %s, %s: beside %v: %+v", op, said(s), told(in), err, got)
	}
	if w := words(wantDo(op, s, in)); w != want {
		t.Errorf("operator %d, %s, %s: the second writing has %s, want %s", op, said(s), told(in), w, want)
	}
}

// said is of a setting what the operators of this layer ask.
func said(s api.Setting) string {
	return fmt.Sprintf("alpha %08X beta %08X low %t high %t fmod %t to %d", s.Alpha, s.Beta, s.Low, s.High, s.Fmod, s.To)
}

// told are tensors in a line, the beginning of each.
func told(in []api.Tensor) string {
	var list []string
	for _, t := range in[:min(len(in), 4)] {
		all := fmt.Sprintf("%d %v %08X %d %t", t.Type, t.Dims, t.F, t.I, t.B)
		list = append(list, all[:min(len(all), 200)])
	}
	return strings.Join(list, "; ")
}

// alike: have both the same type, dims and elements?
func alike(a, b api.Tensor) bool {
	return a.Type == b.Type && slices.Equal(a.Dims, b.Dims) && slices.Equal(a.F, b.F) && slices.Equal(a.I, b.I) && slices.Equal(a.B, b.B)
}

func isZero(t api.Tensor) bool { return alike(t, api.Tensor{}) }

// ofFloats, ofWholes and ofTruths are tensors of one dim.
func ofFloats(list []uint32) api.Tensor {
	return api.Tensor{Type: api.Float, Dims: []int{len(list)}, F: slices.Clone(list)}
}

func ofWholes(list []int64) api.Tensor {
	return api.Tensor{Type: api.Int, Dims: []int{len(list)}, I: slices.Clone(list)}
}

func ofTruths(list ...bool) api.Tensor {
	return api.Tensor{Type: api.Bool, Dims: []int{len(list)}, B: list}
}

// shaped is a tensor with other dims.
func shaped(t api.Tensor, dims ...int) api.Tensor {
	t.Dims = dims
	return t
}

// oddFloats are at the edges of floats and of what is done to them.
func oddFloats() []uint32 {
	var all []uint32
	for _, f := range []uint32{
		0, 1, 2, 0x007FFFFF, 0x00800000, 0x00800001, 0x33800000, 0x39800000, // the least ones
		0x3E800000, 0x3EFFFFFF, 0x3F000000, 0x3F000001, 0x3F7FFFFF, 0x3F800000, 0x3F800001, 0x3FC00000, 0x40000000, 0x40200000, 0x40400000, 0x40490FDB, 0x40F00000, // about 1
		0x42B17218, 0x42D00000, 0x4AFFFFFF, 0x4B000000, 0x4B7FFFFF, 0x4B800000, 0x5EFFFFFF, 0x5F000000, 0x5F000001, 0x7E967699, 0x7F7FFFFE, 0x7F7FFFFF, // the greatest ones
		0x7F800000, 0x7F800001, 0x7FBFFFFF, 0x7FC00000, 0x7FC00001, 0x7FFFFFFF, // no finite ones
	} {
		all = append(all, f, f|api.FloatSign)
	}
	return all
}

// oddWholes are at the edges of whole numbers and of what is done to them.
func oddWholes() []int64 {
	return []int64{
		math.MinInt64, math.MinInt64 + 1, math.MinInt64 + 2, -1 << 62, -1<<32 - 1, -1 << 32, -1<<31 - 1, -1 << 31, -1<<24 - 1, -4097, -10, -7, -3, -2, -1,
		0, 1, 2, 3, 7, 10, 4096, 1 << 24, 1<<24 + 1, 1<<24 + 3, 1<<31 - 1, 1 << 31, 3037000500, 1 << 32, 1<<53 + 1, 1 << 62, math.MaxInt64 - 1, math.MaxInt64,
	}
}

// pairs are two tensors with each of a list against each.
func pairs[E any](list []E) (a, b []E) {
	for _, x := range list {
		for _, y := range list {
			a, b = append(a, x), append(b, y)
		}
	}
	return a, b
}

// groups of operators, as the chapter has them.
var (
	ofOneFloat  = []int{4, 5, 6, 7, 8, 9, 10, 11, 12, 13, 14, 15, 16, 17, 18, 19, 20}
	ofSigns     = []int{api.OpAbs, api.OpNeg, api.OpSign}
	ofTwoFloats = []int{api.OpAdd, api.OpSub, api.OpMul, api.OpDiv, api.OpMod, api.OpPow, api.OpMin, api.OpMax, api.OpPRelu, api.OpEqual, api.OpLess, api.OpLessOrEqual, api.OpGreater, api.OpGreaterOrEqual}
	ofTwoWholes = []int{api.OpAdd, api.OpSub, api.OpMul, api.OpDiv, api.OpMod, api.OpMin, api.OpMax, api.OpEqual, api.OpLess, api.OpLessOrEqual, api.OpGreater, api.OpGreaterOrEqual}
	ofTwoTruths = []int{api.OpAnd, api.OpOr, api.OpXor, api.OpEqual}
)
