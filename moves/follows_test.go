package moves_test

import (
	"slices"
	"testing"

	"lattice/api"
	"lattice/moves"
	"lattice/seeds"
	"lattice/tens"
)

// one is what Do answers, of which there must be one.
func one(t *testing.T, op int, s api.Setting, in ...api.Tensor) api.Tensor {
	t.Helper()
	list, err := moves.Do(op, s, in, 1)
	if err != api.OK || len(list) != 1 {
		t.Fatalf("operator %d, %s, %s: %v, %d tensors", op, said(s), told(in), err, len(list))
	}
	return list[0]
}

// leadsBack: is it what the first one is taken as?
func leadsBack(t *testing.T, what string, x, back api.Tensor) {
	t.Helper()
	if !alike(tens.Canon(x), back) {
		t.Fatalf("%s: %s became %s", what, told([]api.Tensor{x}), told([]api.Tensor{back}))
	}
}

// P12.2: Transpose by an order, and then by the order that undoes it.
func TestTransposeLeadsBack(t *testing.T) {
	m := maker{seeds.Seed(1203)}
	for range 3000 {
		x := m.fill(m.anyType(), m.shape(m.below(6)))
		perm := m.order(len(x.Dims))
		undo := make([]int, len(perm))
		for i, p := range perm {
			undo[p] = i
		}
		y := one(t, api.OpTranspose, order(perm...), x)
		leadsBack(t, "Transpose", x, one(t, api.OpTranspose, order(undo...), y))
		leadsBack(t, "Transpose turned round", x, one(t, api.OpTranspose, plain, one(t, api.OpTranspose, plain, x)))
	}
}

// P12.2: SpaceToDepth, and DepthToSpace by ModeDCR behind it.
func TestSpaceToDepthLeadsBack(t *testing.T) {
	m := maker{seeds.Seed(1204)}
	for range 3000 {
		b := 1 + m.below(3)
		x := m.fill(m.anyType(), []int{m.below(3), 1 + m.below(3), m.below(3) * b, (1 + m.below(3)) * b})
		y := one(t, api.OpSpaceToDepth, cut(b, 0), x)
		leadsBack(t, "SpaceToDepth", x, one(t, api.OpDepthToSpace, cut(b, api.ModeDCR), y))
	}
}

// P12.2: Concat of what Split answers, by what is told and by parts that are the same.
func TestSplitLeadsBack(t *testing.T) {
	m := maker{seeds.Seed(1205)}
	for range 3000 {
		n := m.any(api.OpSplit)
		parts, err := moves.Do(n.op, n.s, n.in, n.outs)
		if err != api.OK || len(parts) != n.outs {
			t.Fatalf("%s, %s: %v, %d tensors", said(n.s), told(n.in), err, len(parts))
		}
		leadsBack(t, "Split", n.in[0], one(t, api.OpConcat, n.s, parts...))
	}
}

// P12.2: Slice of what Pad answers, of just what was there, by each mode.
func TestPadLeadsBack(t *testing.T) {
	m := maker{seeds.Seed(1206)}
	taken := 0
	for range 5000 {
		n := m.any(api.OpPad)
		list, err := moves.Do(n.op, n.s, n.in, n.outs)
		if err != api.OK {
			continue
		}
		taken++
		x := n.in[0]
		rank := len(x.Dims)
		starts := n.in[1].I[:rank]
		ends := slices.Clone(starts)
		for i, d := range x.Dims {
			ends[i] += int64(d)
		}
		of := func(list []int64) api.Tensor { return api.Tensor{Type: api.Int, Dims: []int{len(list)}, I: list} }
		leadsBack(t, "Pad", x, one(t, api.OpSlice, plain, list[0], of(starts), of(ends)))
	}
	if taken < 4000 {
		t.Errorf("%d were taken", taken)
	}
}
