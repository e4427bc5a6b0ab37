package moves_test

import (
	"fmt"
	"slices"
	"strconv"
	"strings"
	"testing"

	"lattice/api"
	"lattice/moves"
)

// This file holds what the tests try: tensors in few words.
//
// A tensor is a letter for its type (f, i, b), its dims, parted by dots, a colon, and its elements, parted by commas: floats as hexadecimal words, truths as 0 and 1. Where no dims are said, there is one, of as many elements; a dot alone says that there are none. An input that is left out is a line: -.

func tensor(word string) api.Tensor {
	if word == "-" {
		return api.Tensor{}
	}
	head, tail, found := strings.Cut(word[1:], ":")
	if !found {
		panic(word)
	}
	var list []string
	if tail != "" {
		list = strings.Split(tail, ",")
	}
	t := api.Tensor{Dims: []int{}}
	switch head {
	case "":
		t.Dims = []int{len(list)}
	case ".":
	default:
		for _, d := range strings.Split(head, ".") {
			t.Dims = append(t.Dims, int(number(d, 10)))
		}
	}
	for _, e := range list {
		switch word[0] {
		case 'f':
			t.F = append(t.F, uint32(number(e, 16)))
		case 'i':
			t.I = append(t.I, number(e, 10))
		case 'b':
			t.B = append(t.B, number(e, 10) == 1)
		}
	}
	t.Type = map[byte]int{'f': api.Float, 'i': api.Int, 'b': api.Bool}[word[0]]
	return t
}

func number(word string, base int) int64 {
	n, err := strconv.ParseInt(word, base, 64)
	if err != nil {
		panic(word)
	}
	return n
}

func tensors(text string) []api.Tensor {
	var list []api.Tensor
	for _, word := range strings.Fields(text) {
		list = append(list, tensor(word))
	}
	return list
}

// words tells tensors as tensors takes them, or an error by its name.
func words(list []api.Tensor, err api.Errno) string {
	if err != api.OK {
		return errName(err)
	}
	var all []string
	for _, t := range list {
		all = append(all, wordOf(t))
	}
	return strings.Join(all, " ")
}

func wordOf(t api.Tensor) string {
	var list []string
	for _, f := range t.F {
		list = append(list, fmt.Sprintf("%08X", f))
	}
	for _, i := range t.I {
		list = append(list, strconv.FormatInt(i, 10))
	}
	for _, b := range t.B {
		list = append(list, map[bool]string{false: "0", true: "1"}[b])
	}
	letter := map[int]string{api.Float: "f", api.Int: "i", api.Bool: "b"}[t.Type]
	head := strings.ReplaceAll(strings.Trim(fmt.Sprint(t.Dims), "[]"), " ", ".")
	switch {
	case len(t.Dims) == 0:
		head = "."
	case len(t.Dims) == 1 && t.Dims[0] == len(list):
		head = ""
	}
	return letter + head + ":" + strings.Join(list, ",")
}

func errName(err api.Errno) string {
	all := map[api.Errno]string{api.ErrArg: "ErrArg", api.ErrShape: "ErrShape", api.ErrSize: "ErrSize", api.ErrType: "ErrType",
		api.ErrAttr: "ErrAttr", api.ErrConst: "ErrConst", api.ErrIndex: "ErrIndex"}
	if name, is := all[err]; is {
		return name
	}
	return err.Error()
}

// plain is the setting of an operator that has no attributes.
var plain api.Setting

// along is a setting of an axis, by a setting of a mode, cut one of a block.
func along(axis int) api.Setting { return api.Setting{Axis: axis} }

func by(mode int) api.Setting { return api.Setting{Mode: mode} }

func cut(block, mode int) api.Setting { return api.Setting{Block: block, Mode: mode} }

// gives: Do answers just that one tensor, and so does the chapter's second writing.
func gives(t *testing.T, op int, s api.Setting, in, want string) {
	t.Helper()
	answers(t, op, s, tensors(in), 1, want)
}

func answers(t *testing.T, op int, s api.Setting, in []api.Tensor, outs int, want string) {
	t.Helper()
	got, err := moves.Do(op, s, in, outs)
	if w := words(got, err); w != want {
		t.Errorf("operator %d, %s, %s: %s, want %s", op, said(s), told(in), w, want)
	}
	if err != api.OK && len(got) != 0 {
		t.Errorf("operator %d, %s, %s: beside %v: %+v", op, said(s), told(in), err, got)
	}
	if w := words(wantDo(op, s, in, outs)); w != want {
		t.Errorf("operator %d, %s, %s: the second writing has %s, want %s", op, said(s), told(in), w, want)
	}
}

// holds: Do answers what the chapter's second writing does, whose error it tells.
func holds(t *testing.T, n node) api.Errno {
	t.Helper()
	got, err := moves.Do(n.op, n.s, n.in, n.outs)
	want, wantErr := wantDo(n.op, n.s, n.in, n.outs)
	if err != wantErr || !slices.EqualFunc(got, want, alike) {
		t.Fatalf("operator %d, %s, %s: %s, want %s", n.op, said(n.s), told(n.in), words(got, err), words(want, wantErr))
	}
	return wantErr
}

// said is of a setting what the operators of this layer ask.
func said(s api.Setting) string {
	return fmt.Sprintf("axis %d perm %v %t zero %t mode %d block %d start %d end %d %t value %s", s.Axis, s.Perm, s.HasPerm, s.Zero, s.Mode, s.Block, s.Start, s.End, s.HasEnd, told([]api.Tensor{s.Value}))
}

// told are tensors in a line, the beginning of each.
func told(in []api.Tensor) string {
	var list []string
	for _, t := range in[:min(len(in), 6)] {
		all := fmt.Sprintf("%d %v %08X %d %t", t.Type, t.Dims, t.F, t.I, t.B)
		list = append(list, all[:min(len(all), 200)])
	}
	return strings.Join(list, "; ")
}

// alike: have both the same type, dims and elements?
func alike(a, b api.Tensor) bool {
	return a.Type == b.Type && slices.Equal(a.Dims, b.Dims) && slices.Equal(a.F, b.F) && slices.Equal(a.I, b.I) && slices.Equal(a.B, b.B)
}

// ints is a list of whole numbers, such as a told one.
func ints(list ...int) api.Tensor {
	t := api.Tensor{Type: api.Int, Dims: []int{len(list)}}
	for _, n := range list {
		t.I = append(t.I, int64(n))
	}
	return t
}

// counted is a tensor of whole numbers from 0 on.
func counted(dims ...int) api.Tensor {
	t := api.Tensor{Type: api.Int, Dims: dims}
	eachIndex(dims, func([]int) { t.I = append(t.I, int64(len(t.I))) })
	return t
}

// all are the operators of this layer.
func all() []int {
	var list []int
	for op := api.OpTranspose; op <= api.OpSpaceToDepth; op++ {
		if op != api.OpConstant {
			list = append(list, op)
		}
	}
	return list
}
