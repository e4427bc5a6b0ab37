package ewise_test

import (
	"testing"

	"lattice/api"
	"lattice/ewise"
	"lattice/seeds"
)

// maker makes operations by chance.
type maker struct{ s seeds.Seed }

func (m *maker) below(n int) int { return m.s.Below(n) }

// node is what Do is asked.
type node struct {
	op int
	s  api.Setting
	in []api.Tensor
}

// shape is a small one, now and then without elements.
func (m *maker) shape() []int {
	dims := make([]int, m.below(4))
	for i := range dims {
		dims[i] = 1 + m.below(4)
		if m.below(12) == 0 {
			dims[i] = 0
		}
	}
	return dims
}

// lower is a shape that goes together with another one, as that.
func (m *maker) lower(dims []int) []int {
	small := append([]int{}, dims[m.below(len(dims)+1):]...)
	for i := range small {
		if m.below(3) == 0 {
			small[i] = 1
		}
	}
	return small
}

// fill is a tensor of a type and dims, with elements by chance.
func (m *maker) fill(kind int, dims []int) api.Tensor {
	t := api.Tensor{Type: kind, Dims: dims}
	n := 1
	for _, d := range dims {
		n *= d
	}
	for range n {
		switch kind {
		case api.Float:
			t.F = append(t.F, anyFloat(&m.s, 0x40000000))
		case api.Int:
			t.I = append(t.I, m.whole())
		default:
			t.B = append(t.B, m.below(2) == 0)
		}
	}
	return t
}

// whole is a number that is seldom 0, so that a tensor of such is most often divided by.
func (m *maker) whole() int64 {
	if n := int64(m.s.Next()) >> m.below(64); n != 0 || m.below(20) == 0 {
		return n
	}
	return 3
}

// kinds are types that the operator takes: of its first input and of the others.
func (m *maker) kinds(op int) (first, rest int) {
	any := []int{api.Float, api.Int, api.Bool}
	switch {
	case op == api.OpIdentity, op == api.OpCast, op == api.OpEqual:
		first = any[m.below(3)]
	case op >= api.OpNot && op <= api.OpXor:
		first = api.Bool
	case op == api.OpWhere:
		return api.Bool, any[m.below(3)]
	case op == api.OpPow, op == api.OpPRelu, op >= api.OpFloor && op <= api.OpSoftplus, op == api.OpIsNaN, op == api.OpIsInf:
		first = api.Float
	default:
		first = any[m.below(2)]
	}
	return first, first
}

// any is an operation that is taken, but that a whole number may be divided by 0.
func (m *maker) any(op int) node {
	n := node{op: op, s: api.Setting{Alpha: anyFloat(&m.s, 0x3F000000), Beta: anyFloat(&m.s, 0x3F000000), Low: m.below(2) == 0, High: m.below(2) == 0, Fmod: m.below(2) == 0, To: []int{1, 7, 9}[m.below(3)]}}
	first, rest := m.kinds(op)
	n.s.Fmod = n.s.Fmod || first == api.Float
	dims := m.shape()
	count := 1
	switch {
	case op == api.OpWhere:
		count = 3
	case op >= api.OpAnd && op <= api.OpXor, op >= api.OpAdd && op <= api.OpGreaterOrEqual:
		count = 2
	}
	for i := range count {
		kind := rest
		if i == 0 {
			kind = first
		}
		n.in = append(n.in, m.fill(kind, m.lower(dims)))
	}
	switch op {
	case api.OpPRelu:
		n.in[0] = m.fill(first, dims)
	case api.OpClip:
		for range m.below(3) {
			bound := api.Tensor{}
			if m.below(3) > 0 {
				bound = m.fill(rest, nil)
			}
			n.in = append(n.in, bound)
		}
	}
	return n
}

// spoil makes an operation most often one that is refused.
func (m *maker) spoil(n *node) {
	if len(n.in) == 0 {
		return
	}
	x := &n.in[m.below(len(n.in))]
	switch m.below(9) {
	case 0:
		n.op = m.below(60) - 5
	case 1:
		n.in = n.in[1:]
	case 2:
		n.in = append(n.in, *x)
	case 3:
		x.Type = m.below(10)
	case 4:
		x.Dims = append([]int{m.below(5) - 1}, x.Dims...)
	case 5:
		*x = m.fill([]int{api.Float, api.Int, api.Bool}[m.below(3)], m.shape())
	case 6:
		*x = api.Tensor{}
	case 7:
		x.F = append(x.F[:len(x.F):len(x.F)], 7)
	case 8:
		n.s.Fmod, n.s.To = false, m.below(10)
	}
}

// P11.2, P11.3, R4: operations by chance, taken or refused, whole and in parts.
func TestAnyOperation(t *testing.T) {
	m := maker{seeds.Seed(1103)}
	var taken [45]int
	for i := range 15000 {
		n := m.any(1 + i%44)
		if m.below(4) == 0 {
			m.spoil(&n)
		}
		holds(t, n.op, n.s, n.in...)
		whole, err := wantDo(n.op, n.s, n.in)
		if err == api.OK {
			taken[n.op]++
		}
		size := len(whole.F) + len(whole.I) + len(whole.B)
		lo, hi := m.below(size+3)-1, m.below(size+3)-1
		got, err := ewise.Part(n.op, n.s, n.in, lo, hi)
		want, wantErr := wantPart(n.op, n.s, n.in, lo, hi)
		if err != wantErr || !alike(got, want) {
			t.Fatalf("operator %d, %s, %s from %d to %d: %s, want %s", n.op, said(n.s), told(n.in), lo, hi, words(got, err), words(want, wantErr))
		}
	}
	for op := 1; op <= 44; op++ {
		if taken[op] < 50 {
			t.Errorf("operator %d was taken %d times", op, taken[op])
		}
	}
}
