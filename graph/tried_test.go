package graph_test

import (
	"fmt"
	"reflect"
	"strings"
	"testing"

	"lattice/api"
	"lattice/graph"
)

// This file holds what the tests try: models and graphs in few words.

// empty is the word that stands for an empty name.
const empty = "-"

// names are those of a text, parted by blanks.
func names(text string) []string {
	list := strings.Fields(text)
	for i, name := range list {
		if name == empty {
			list[i] = ""
		}
	}
	return list
}

func node(op, in, out string, attrs ...api.Attr) api.Node {
	return api.Node{Op: op, In: names(in), Out: names(out), Attrs: attrs}
}

// number is an attribute.
func number(name string, n int64) api.Attr { return api.Attr{Name: name, Kind: api.AttrInt, I: n} }

func tensor(name string, t api.Tensor) api.Attr {
	return api.Attr{Name: name, Kind: api.AttrTensor, T: t}
}

// told is a node Constant.
func told(out string, n int64) api.Node { return node("Constant", "", out, number("value_int", n)) }

// whole is the constant of one number.
func whole(n int64) api.Tensor { return api.Tensor{Type: api.Int, I: []int64{n}} }

func floats(list ...uint32) api.Tensor {
	return api.Tensor{Type: api.Float, Dims: []int{len(list)}, F: list}
}

// model has constants 0, 1, 2 .. and inputs of the dims 1, 2, 3 ..; all outputs are declared as floats.
func model(consts, inputs, outputs string, nodes ...api.Node) api.Model {
	m := api.Model{Opset: 17, Nodes: nodes}
	for i, name := range names(consts) {
		m.Inits = append(m.Inits, api.Init{Name: name, T: whole(int64(i))})
	}
	for i, name := range names(inputs) {
		m.Inputs = append(m.Inputs, api.Value{Name: name, Type: api.Float, Dims: []int{i + 1}})
	}
	for _, name := range names(outputs) {
		m.Outputs = append(m.Outputs, api.Value{Name: name, Type: api.Float})
	}
	return m
}

// short is anything in one line, a list without elements the same whether it is nil or not.
func short(x any) string { return fmt.Sprintf("%+v", x) }

// alike: is all of both the same, a list without elements whether it is nil or not?
func alike[E any](a, b E) bool { return same(reflect.ValueOf(a), reflect.ValueOf(b)) }

func same(a, b reflect.Value) bool {
	switch a.Kind() {
	case reflect.Struct:
		for i := range a.NumField() {
			if !same(a.Field(i), b.Field(i)) {
				return false
			}
		}
		return true
	case reflect.Slice:
		if a.Len() != b.Len() {
			return false
		}
		for i := range a.Len() {
			if !same(a.Index(i), b.Index(i)) {
				return false
			}
		}
		return true
	}
	return a.Equal(b)
}

// refuses: Build answers that error at that place, and nothing beside it.
func refuses(t *testing.T, m api.Model, err api.Errno, at int) {
	t.Helper()
	g, gotErr, gotAt := graph.Build(m)
	if gotErr != err || gotAt != at {
		t.Errorf("%s: %v at %d, want %v at %d", short(m), gotErr, gotAt, err, at)
	}
	if err != api.OK && (g.Vals != nil || g.Nodes != nil || g.Inputs != nil || g.Outputs != nil) {
		t.Errorf("%s: beside %v: %s", short(m), err, short(g))
	}
}

// built is the graph of a model that is taken.
func built(t *testing.T, m api.Model) api.Graph {
	t.Helper()
	g, err, at := graph.Build(m)
	if err != api.OK || at != 0 {
		t.Fatalf("%s: %v at %d", short(m), err, at)
	}
	return g
}

// links are a graph's nodes without operators and settings: a text of Source, inputs and outputs of each.
func links(g api.Graph) string {
	var list []string
	for _, n := range g.Nodes {
		list = append(list, fmt.Sprint(n.Source, n.In, n.Out))
	}
	return strings.Join(list, " ")
}

// sources are those of a graph's nodes, in order.
func sources(g api.Graph) []int {
	list := []int{}
	for _, n := range g.Nodes {
		list = append(list, n.Source)
	}
	return list
}

// op is a node of a graph.
func op(in, out []int) api.GNode { return api.GNode{Op: api.OpRelu, In: in, Out: out} }

// list is what it is given; without numbers it is nil.
func list(n ...int) []int { return n }

// bare is a graph of so many values, without constants.
func bare(vals int, inputs, outputs []int, nodes ...api.GNode) api.Graph {
	return api.Graph{Vals: make([]api.Val, vals), Nodes: nodes, Inputs: inputs, Outputs: outputs}
}

// with makes constants of some values.
func with(g api.Graph, consts ...int) api.Graph {
	g = graph.Copy(g)
	for _, v := range consts {
		g.Vals[v].Const = true
	}
	return g
}
