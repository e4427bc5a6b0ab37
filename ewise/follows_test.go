package ewise_test

import (
	"testing"

	"lattice/api"
	"lattice/ewise"
	"lattice/seeds"
)

// P11.4: parts laid one behind the other are the whole.
func TestPartsAreTheWhole(t *testing.T) {
	m := maker{seeds.Seed(1104)}
	for i := range 6000 {
		n := m.any(1 + i%44)
		whole, err := ewise.Do(n.op, n.s, n.in)
		if err != api.OK {
			continue
		}
		size := len(whole.F) + len(whole.I) + len(whole.B)
		laid := api.Tensor{Type: whole.Type, Dims: whole.Dims}
		for lo := 0; lo < size; {
			hi := min(lo+m.below(20), size)
			p, err := ewise.Part(n.op, n.s, n.in, lo, hi)
			if err != api.OK || p.Type != whole.Type || len(p.Dims) != 1 || p.Dims[0] != hi-lo {
				t.Fatalf("operator %d, %s from %d to %d: %v, %s", n.op, told(n.in), lo, hi, err, told([]api.Tensor{p}))
			}
			laid.F, laid.I, laid.B = append(laid.F, p.F...), append(laid.I, p.I...), append(laid.B, p.B...)
			lo = hi
		}
		if !alike(laid, whole) {
			t.Fatalf("operator %d, %s: parts are %s, the whole %s", n.op, told(n.in), told([]api.Tensor{laid}), told([]api.Tensor{whole}))
		}
	}
}

// P11.4: tiles of the greatest tensor, as workers take them.
func TestTiles(t *testing.T) {
	m := maker{seeds.Seed(1105)}
	in := []api.Tensor{m.fill(api.Float, []int{64, 1}), m.fill(api.Float, []int{64})}
	whole, err := ewise.Do(api.OpSub, plain, in)
	if err != api.OK || len(whole.F) != api.MaxElems {
		t.Fatalf("%v, %d elements", err, len(whole.F))
	}
	for lo := 0; lo < api.MaxElems; lo += api.TileSize {
		p, err := ewise.Part(api.OpSub, plain, in, lo, lo+api.TileSize)
		if err != api.OK || !alike(p, cut(whole, lo, lo+api.TileSize)) {
			t.Fatalf("from %d on: %v, %s", lo, err, told([]api.Tensor{p}))
		}
	}
}

// expanded is a tensor brought to other dims.
func expanded(t api.Tensor, dims []int) api.Tensor {
	out := api.Tensor{Type: t.Type, Dims: dims}
	eachIndex(dims, func(index []int) {
		switch e := elementAt(t, index).(type) {
		case float32:
			out.F = append(out.F, bitsOf(e))
		case int64:
			out.I = append(out.I, e)
		case bool:
			out.B = append(out.B, e)
		}
	})
	return out
}

// P11.4: inputs that were expanded to the output's dims ahead give the same. (Clip's bounds have no dims.)
func TestExpandedAhead(t *testing.T) {
	m := maker{seeds.Seed(1106)}
	for i := range 6000 {
		n := m.any(1 + i%44)
		whole, err := ewise.Do(n.op, n.s, n.in)
		if err != api.OK || n.op == api.OpClip {
			continue
		}
		var in []api.Tensor
		for _, x := range n.in {
			in = append(in, expanded(x, whole.Dims))
		}
		if again, err := ewise.Do(n.op, n.s, in); err != api.OK || !alike(again, whole) {
			t.Fatalf("operator %d, %s: expanded ahead %s, else %s", n.op, told(n.in), told([]api.Tensor{again}), told([]api.Tensor{whole}))
		}
	}
}

// P11.4: some operators are the same with a and b changed about.
func TestChangedAbout(t *testing.T) {
	m := maker{seeds.Seed(1107)}
	a, b := pairs(oddFloats())
	x, y := ofFloats(a[:api.MaxElems]), ofFloats(b[:api.MaxElems])
	for _, op := range []int{api.OpAdd, api.OpMul, api.OpMin, api.OpMax, api.OpEqual, api.OpAnd, api.OpOr, api.OpXor} {
		nodes := []node{}
		if op < api.OpAnd || op > api.OpXor {
			nodes = append(nodes, node{op: op, in: []api.Tensor{x, y}})
		}
		for range 500 {
			nodes = append(nodes, m.any(op))
		}
		for _, n := range nodes {
			one, err := ewise.Do(op, n.s, n.in)
			other, otherErr := ewise.Do(op, n.s, []api.Tensor{n.in[1], n.in[0]})
			if err != api.OK || otherErr != api.OK || !alike(one, other) {
				t.Fatalf("operator %d, %s: %s, and changed about %s", op, told(n.in), words(one, err), words(other, otherErr))
			}
		}
	}
}
