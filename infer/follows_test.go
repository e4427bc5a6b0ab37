package infer_test

import (
	"slices"
	"testing"

	"lattice/api"
	"lattice/infer"
	"lattice/ops"
	"lattice/seeds"
)

// asGraph is a graph of one node.
func asGraph(n node) api.Graph {
	var g api.Graph
	made := api.GNode{Op: n.op, S: n.s}
	for _, v := range n.in {
		if v.Type == api.None {
			made.In = append(made.In, -1)
			continue
		}
		if !v.Const {
			g.Inputs = append(g.Inputs, len(g.Vals))
		}
		made.In = append(made.In, len(g.Vals))
		g.Vals = append(g.Vals, v)
	}
	for range n.outs {
		made.Out = append(made.Out, len(g.Vals))
		g.Outputs = append(g.Outputs, len(g.Vals))
		g.Vals = append(g.Vals, api.Val{})
	}
	g.Nodes = []api.GNode{made}
	return g
}

// P10.4: of each operator, what Of answers it takes again, and answers the same; all shapes in it may be. A graph of one node is refused as Node refuses that.
func TestAgain(t *testing.T) {
	m := maker{seeds.Seed(106)}
	taken := map[int]int{}
	for i := range 30000 {
		n := m.any(1 + i%api.Ops)
		if slices.ContainsFunc(n.in, func(v api.Val) bool { return wantSize(v.Dims) < 0 }) {
			continue
		}
		g := asGraph(n)
		list, wantErr := infer.Node(n.op, n.s, n.in, n.outs)
		got, err, at := infer.Of(g)
		if err != wantErr || at != 0 {
			t.Fatalf("%s: %v at %d, want %v", short(n), err, at, wantErr)
		}
		if err != api.OK {
			continue
		}
		if !alike(got.Vals[len(g.Vals)-n.outs:], list) {
			t.Fatalf("%s: %s, want %s", short(n), short(got), short(list))
		}
		againTaken(t, got)
		taken[n.op]++
	}
	for op := 1; op <= api.Ops; op++ {
		if taken[op] < 30 && op != api.OpConstant {
			t.Errorf("operator %d was taken %d times", op, taken[op])
		}
	}
}

// P10.1, by chapter 8: what ops.Resolve answers of a node with as many inputs as it takes is never ErrArg.
func TestResolved(t *testing.T) {
	for op := 1; op <= api.Ops; op++ {
		least, _, few, _ := ops.Arity(op)
		n := api.Node{Op: ops.Name(op), In: slices.Repeat([]string{"x"}, least), Out: slices.Repeat([]string{"y"}, few)}
		must := map[int]api.Attr{
			api.OpCast:         {Name: "to", Kind: api.AttrInt, I: api.Float},
			api.OpConcat:       {Name: "axis", Kind: api.AttrInt},
			api.OpDepthToSpace: {Name: "blocksize", Kind: api.AttrInt, I: 1}, api.OpSpaceToDepth: {Name: "blocksize", Kind: api.AttrInt, I: 1},
			api.OpMaxPool: {Name: "kernel_shape", Kind: api.AttrInts, Ints: []int64{1, 1}}, api.OpAveragePool: {Name: "kernel_shape", Kind: api.AttrInts, Ints: []int64{1, 1}},
			api.OpConstant: {Name: "value_int", Kind: api.AttrInt},
		}
		if a, is := must[op]; is {
			n.Attrs = append(n.Attrs, a)
		}
		number, s, err := ops.Resolve(n)
		if err != api.OK || number != op {
			t.Fatalf("operator %d: %v", op, err)
		}
		for _, word := range []string{"f1.1.1.1", "i1.1.1.1", "b1", "t1", "f1"} {
			in := slices.Repeat(vals(word), least)
			_, err := infer.Node(op, s, in, few)
			if (err == api.ErrArg) != (op == api.OpConstant) {
				t.Errorf("operator %d of %s: %v", op, word, err)
			}
			if err == api.ErrAttr && op != api.OpMod && op != api.OpFlatten {
				t.Errorf("operator %d of %s: %v", op, word, err)
			}
		}
	}
}
