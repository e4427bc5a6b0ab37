package infer_test

import (
	"fmt"
	"reflect"
	"slices"
	"strconv"
	"strings"
	"testing"

	"lattice/api"
	"lattice/infer"
)

// This file holds what the tests try: values in few words.
//
// A value is a letter for its type (f, i, b), and its dims, parted by dots: f2.3. A told list is a t, and its numbers, parted by commas: t0,-1,3. An input that is left out is a line: -.

func val(word string) api.Val {
	rest := word[1:]
	switch word[0] {
	case '-':
		return api.Val{}
	case 't':
		return told(numbers(rest, ",")...)
	case 'f':
		return api.Val{Type: api.Float, Dims: numbers(rest, ".")}
	case 'i':
		return api.Val{Type: api.Int, Dims: numbers(rest, ".")}
	case 'b':
		return api.Val{Type: api.Bool, Dims: numbers(rest, ".")}
	}
	panic(word)
}

func vals(text string) []api.Val {
	list := []api.Val{}
	for _, word := range strings.Fields(text) {
		list = append(list, val(word))
	}
	return list
}

func numbers(text, between string) []int {
	list := []int{}
	if text == "" {
		return list
	}
	for _, word := range strings.Split(text, between) {
		n, err := strconv.Atoi(word)
		if err != nil {
			panic(err)
		}
		list = append(list, n)
	}
	return list
}

// whole is an Int tensor.
func whole(dims []int, list ...int64) api.Tensor {
	return api.Tensor{Type: api.Int, Dims: dims, I: list}
}

// constant is a value that is that tensor.
func constant(t api.Tensor) api.Val {
	return api.Val{Type: t.Type, Dims: slices.Clone(t.Dims), Const: true, T: t}
}

// told is a list that says a shape.
func told(list ...int) api.Val {
	l := []int64{}
	for _, n := range list {
		l = append(l, int64(n))
	}
	return constant(whole([]int{len(l)}, l...))
}

// zeros is the tensor of that type and those dims, all 0.
func zeros(kind int, dims ...int) api.Tensor {
	n := 1
	for _, d := range dims {
		n *= d
	}
	t := api.Tensor{Type: kind, Dims: dims}
	switch kind {
	case api.Float:
		t.F = make([]uint32, n)
	case api.Int:
		t.I = make([]int64, n)
	case api.Bool:
		t.B = make([]bool, n)
	}
	return t
}

// words tells values as val takes them, or an error by its name.
func words(list []api.Val, err api.Errno) string {
	if err != api.OK {
		return errName(err)
	}
	var all []string
	for _, v := range list {
		letter := map[int]string{api.Float: "f", api.Int: "i", api.Bool: "b"}[v.Type]
		if letter == "" {
			letter = fmt.Sprint("type", v.Type, ":")
		}
		all = append(all, letter+strings.ReplaceAll(strings.Trim(fmt.Sprint(v.Dims), "[]"), " ", "."))
	}
	return strings.Join(all, " ")
}

func errName(err api.Errno) string {
	all := map[api.Errno]string{api.OK: "OK", api.ErrArg: "ErrArg", api.ErrPlace: "ErrPlace", api.ErrShape: "ErrShape", api.ErrSize: "ErrSize",
		api.ErrType: "ErrType", api.ErrAttr: "ErrAttr", api.ErrConst: "ErrConst", api.ErrCycle: "ErrCycle", api.ErrName: "ErrName"}
	if name, is := all[err]; is {
		return name
	}
	return err.Error()
}

// bare: is there nothing in values but a type and dims?
func bare(list []api.Val) bool {
	for _, v := range list {
		if v.Const || !reflect.ValueOf(v.T).IsZero() {
			return false
		}
	}
	return true
}

// gives: Node answers just that, and so does the chapter's second writing.
func gives(t *testing.T, op int, s api.Setting, in []api.Val, outs int, want string) {
	t.Helper()
	list, err := infer.Node(op, s, in, outs)
	if got := words(list, err); got != want {
		t.Errorf("operator %d, %s, %s: %s, want %s", op, short(s), short(in), got, want)
	}
	if err != api.OK && list != nil || !bare(list) {
		t.Errorf("operator %d, %s, %s: beside %v: %s", op, short(s), short(in), err, short(list))
	}
	if got := words(wantNode(op, s, in, outs)); got != want {
		t.Errorf("operator %d, %s, %s: the second writing has %s, want %s", op, short(s), short(in), got, want)
	}
}

// says: likewise of one output, and values in words.
func says(t *testing.T, op int, s api.Setting, in, want string) {
	t.Helper()
	gives(t, op, s, vals(in), 1, want)
}

// plain is the setting of an operator that has no attributes.
var plain api.Setting

// through are the numbers from the one on to the other.
func through(from, to int) []int {
	var list []int
	for op := from; op <= to; op++ {
		list = append(list, op)
	}
	return list
}

// short is anything in one line.
func short(x any) string { return fmt.Sprintf("%+v", x) }

// alike: is all of both the same, a list without elements whether it is nil or not?
func alike[E any](a, b E) bool { return same(reflect.ValueOf(a), reflect.ValueOf(b)) }

func same(a, b reflect.Value) bool {
	switch a.Kind() {
	case reflect.Struct:
		for i := range a.NumField() {
			if !same(a.Field(i), b.Field(i)) {
				return false
			}
		}
		return true
	case reflect.Slice:
		if a.Len() != b.Len() {
			return false
		}
		for i := range a.Len() {
			if !same(a.Index(i), b.Index(i)) {
				return false
			}
		}
		return true
	}
	return a.Equal(b)
}
