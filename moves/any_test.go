package moves_test

import (
	"math"
	"slices"
	"testing"

	"lattice/api"
	"lattice/seeds"
)

// maker makes operations by chance.
type maker struct{ s seeds.Seed }

func (m *maker) below(n int) int { return m.s.Below(n) }

func (m *maker) maybe() bool { return m.below(2) == 0 }

// oneOf is one of a list.
func (m *maker) oneOf(list ...int) int { return list[m.below(len(list))] }

// node is what Do is asked.
type node struct {
	op   int
	s    api.Setting
	in   []api.Tensor
	outs int
}

func (m *maker) dim() int { return m.oneOf(0, 1, 1, 2, 2, 3, 3, 4, 5) }

// shape is of so many dims, seldom without elements.
func (m *maker) shape(rank int) []int {
	dims := make([]int, rank)
	for i := range dims {
		if dims[i] = m.dim(); m.below(3) > 0 {
			dims[i] = max(dims[i], 1)
		}
	}
	return dims
}

func (m *maker) anyType() int { return m.oneOf(api.Float, api.Int, api.Bool) }

// fill is a tensor of a type and dims, with elements by chance.
func (m *maker) fill(kind int, dims []int) api.Tensor {
	t := api.Tensor{Type: kind, Dims: dims}
	eachIndex(dims, func([]int) {
		switch kind {
		case api.Float:
			t.F = append(t.F, m.float())
		case api.Int:
			t.I = append(t.I, int64(m.s.Next())>>m.below(64))
		default:
			t.B = append(t.B, m.maybe())
		}
	})
	return t
}

// float is any one, now and then a nought, no finite one, or no number.
func (m *maker) float() uint32 {
	switch m.below(6) {
	case 0:
		return []uint32{0, api.FloatSign, api.FloatInf, 0xFF800000, 0x7F800001, 0xFFC00000, 0xFFFFFFFF, 1, api.FloatMost}[m.below(9)]
	case 1:
		return uint32(m.s.Next())
	}
	return 0x3F000000 + uint32(m.below(1<<25)) | uint32(m.below(2))<<31
}

// axis is one of so many dims, counted from one end or the other; 0, if there are none.
func (m *maker) axis(rank int) int {
	if rank == 0 {
		return 0
	}
	return m.below(2*rank) - rank
}

// order is some order of the numbers below n.
func (m *maker) order(n int) []int {
	list := make([]int, n)
	for i := range list {
		j := m.below(i + 1)
		list[i], list[j] = list[j], i
	}
	return list
}

// axes are some of so many, none twice.
func (m *maker) axes(rank int) []int {
	list := m.order(rank)[:m.below(rank+1)]
	for i := range list {
		list[i] -= rank * m.below(2)
	}
	return list
}

// numbers are such as a dim of n has, counted from one end or the other; 0, if there are none.
func (m *maker) numbers(n int, dims []int) api.Tensor {
	t := api.Tensor{Type: api.Int, Dims: dims}
	eachIndex(dims, func([]int) { t.I = append(t.I, int64(m.axis(n))) })
	return t
}

// any is an operation that is most often taken.
func (m *maker) any(op int) node {
	x := m.fill(m.anyType(), m.shape(m.below(5)))
	n := node{op: op, in: []api.Tensor{x}, outs: 1}
	n.s = api.Setting{Axis: m.axis(len(x.Dims)), Zero: m.below(4) == 0, Mode: m.below(8), Block: m.oneOf(1, 2, 2, 3), Start: m.below(11) - 5, End: m.below(11) - 5, HasEnd: m.maybe()}
	switch op {
	case api.OpTranspose:
		n.s.HasPerm, n.s.Perm = m.maybe(), m.order(len(x.Dims))
	case api.OpReshape, api.OpTile, api.OpExpand, api.OpSqueeze, api.OpUnsqueeze:
		m.reshaped(&n, x.Dims)
	case api.OpConcat, api.OpSplit, api.OpGather, api.OpGatherElements, api.OpScatterElements:
		if len(x.Dims) == 0 {
			n.in[0] = m.fill(x.Type, m.shape(1))
		}
		m.byAxis(&n, n.in[0])
	case api.OpSlice:
		m.slice(&n, len(x.Dims))
	case api.OpPad:
		m.pad(&n, x)
	case api.OpConstantOfShape:
		n.in[0] = ints(m.shape(m.below(4))...)
		n.s.Value = m.fill(x.Type, []int{1, 1, 1}[:m.below(4)])
	case api.OpDepthToSpace, api.OpSpaceToDepth:
		few := func() int { return m.oneOf(0, 1, 1, 1, 2, 2, 2, 3) }
		b := n.s.Block
		n.in[0] = m.fill(x.Type, []int{few(), few() * b * b, few(), few()})
		if op == api.OpSpaceToDepth {
			n.in[0] = m.fill(x.Type, []int{few(), few(), few() * b, few() * b})
		}
	}
	return n
}

// reshaped adds the told list of an operator that has no other input.
func (m *maker) reshaped(n *node, d []int) {
	list := slices.Clone(d)
	switch n.op {
	case api.OpReshape:
		if len(list) > 1 && m.maybe() {
			list = append([]int{list[0] * list[1]}, list[2:]...)
		}
		list = slices.Insert(list, m.below(len(list)+1), 1)
		if m.maybe() {
			list[m.below(len(list))] = -1
		}
	case api.OpTile:
		list = m.shape(len(d))
	case api.OpExpand:
		for i := range d {
			if m.below(3) == 0 {
				d[i], list[i] = 1, m.dim()
			} else if m.maybe() {
				list[i] = 1
			}
		}
		n.in[0] = m.fill(n.in[0].Type, d)
		list = append(m.shape(m.below(3)), list...)
	case api.OpSqueeze:
		list = m.axes(len(d))
		if m.maybe() {
			n.in = append(n.in, api.Tensor{})[:1+m.below(2)]
			return
		}
		for _, axis := range list {
			d[front(axis, len(d))] = 1
		}
		n.in[0] = m.fill(n.in[0].Type, d)
	case api.OpUnsqueeze:
		more := m.below(4)
		list = m.order(len(d) + more)[:more]
		for i := range list {
			list[i] -= (len(d) + more) * m.below(2)
		}
	}
	n.in = append(n.in, ints(list...))
}

// byAxis adds the inputs of an operator that goes along an axis.
func (m *maker) byAxis(n *node, x api.Tensor) {
	d := slices.Clone(x.Dims)
	n.s.Axis = m.axis(len(d))
	at := front(n.s.Axis, len(d))
	switch n.op {
	case api.OpConcat:
		for range m.below(4) {
			d[at] = m.dim()
			n.in = append(n.in, m.fill(x.Type, slices.Clone(d)))
		}
	case api.OpSplit:
		n.outs = 1 + m.below(4)
		list, rest := []int{}, d[at]
		for range n.outs - 1 {
			list = append(list, m.below(rest+1))
			rest -= list[len(list)-1]
		}
		if m.maybe() {
			n.in = append(n.in, ints(append(list, rest)...))
			return
		}
		d[at] = n.outs * m.below(3)
		n.in[0] = m.fill(x.Type, d)
		n.in = append(n.in, api.Tensor{})[:1+m.below(2)]
	case api.OpGather:
		dims := m.shape(m.below(4))
		if d[at] == 0 {
			dims = append(dims, 0)
		}
		n.in = append(n.in, m.numbers(d[at], dims))
	default:
		dims := slices.Clone(d)
		for i := range dims {
			if dims[i] = m.below(d[i] + 1); m.maybe() {
				dims[i] = d[i]
			}
		}
		if dims[at] = m.dim(); d[at] == 0 {
			dims[at] = 0
		}
		n.in = append(n.in, m.numbers(d[at], dims))
		if n.op == api.OpScatterElements {
			n.in = append(n.in, m.fill(x.Type, slices.Clone(dims)))
			n.s.Mode = m.oneOf(0, 0, 3, 4, 4, 5, 5)
			if x.Type == api.Bool {
				n.s.Mode = 0
			}
		}
	}
}

func (m *maker) slice(n *node, rank int) {
	axes := m.axes(rank)
	starts, ends, steps := []int{}, []int{}, []int{}
	number := func() int { return m.oneOf(m.below(15)-7, m.below(6), -m.below(6), math.MaxInt, math.MinInt) }
	for range axes {
		starts, ends = append(starts, number()), append(ends, number())
		steps = append(steps, m.oneOf(1, 2, 3, -1, -1, -2, -3, 5, -5, math.MaxInt, math.MinInt))
	}
	n.in = append(n.in, ints(starts...), ints(ends...), ints(axes...), ints(steps...))
	if m.below(3) == 0 {
		n.in[3] = api.Tensor{}
	}
	if m.below(3) == 0 {
		n.in[4] = api.Tensor{}
	}
	n.in = n.in[:m.oneOf(3, 4, 5, 5, 5)]
}

func (m *maker) pad(n *node, x api.Tensor) {
	pads := make([]int, 2*len(x.Dims))
	n.s.Mode = m.oneOf(0, 1, 1, 2, 2, 3, 3, 7, -1)
	for i := range pads {
		if pads[i] = m.below(4); n.s.Mode == api.ModeReflect || n.s.Mode == api.ModeEdge && x.Dims[i%len(x.Dims)] == 0 {
			pads[i] = m.below(x.Dims[i%len(x.Dims)])
		}
	}
	n.in = append(n.in, ints(pads...))
	switch m.below(3) {
	case 0:
		n.in = append(n.in, m.fill(x.Type, nil))
	case 1:
		n.in = append(n.in, api.Tensor{})
	}
}

// spoil makes an operation most often one that is refused.
func (m *maker) spoil(n *node) {
	if len(n.in) == 0 {
		return
	}
	x := &n.in[m.below(len(n.in))]
	odd := m.oneOf(-1, 0, 1, 2, 3, 5, 7, 64, 65, 4096, 4097, -2, -5, math.MaxInt, math.MinInt)
	switch m.below(10) {
	case 0:
		n.op, n.outs = m.oneOf(n.op, 44, 61, 65, m.below(90)-5), m.oneOf(-1, 0, 1, 2, 64, 65)
	case 1:
		n.in = n.in[1:]
	case 2:
		n.in = append(n.in, *x)
	case 3:
		x.Type = m.below(10)
	case 4:
		x.Dims = append([]int{m.oneOf(-1, 0, 1, 2)}, x.Dims...)
	case 5:
		*x = m.fill(m.anyType(), m.shape(m.below(4)))
	case 6:
		*x = api.Tensor{}
	case 7:
		x.F = append(x.F[:len(x.F):len(x.F)], 7)
	case 8:
		if x.I = slices.Clone(x.I); len(x.I) > 0 {
			x.I[m.below(len(x.I))] = int64(odd)
		}
	case 9:
		m.spoilSetting(&n.s, odd)
	}
}

func (m *maker) spoilSetting(s *api.Setting, odd int) {
	switch m.below(5) {
	case 0:
		s.Axis = odd
	case 1:
		s.Block = odd
	case 2:
		s.Mode = m.below(12) - 1
	case 3:
		s.Start, s.End = odd, m.oneOf(odd, math.MinInt, math.MaxInt)
	case 4:
		s.HasPerm, s.Perm = true, m.axes(4)
		s.Value = []api.Tensor{{}, ints(1, 2), {Type: api.Float, Dims: []int{1}}, {Type: 4}, {Type: api.Bool, B: []bool{true}}}[m.below(5)]
	}
}

// P12.1, R4: operations by chance, taken or refused.
func TestAnyOperation(t *testing.T) {
	m := maker{seeds.Seed(1201)}
	taken, refused := map[int]int{}, map[string]int{}
	ops := all()
	for i := range 50000 {
		n := m.any(ops[i%len(ops)])
		if m.below(3) == 0 {
			m.spoil(&n)
		}
		if err := holds(t, n); err == api.OK {
			taken[n.op]++
		} else {
			refused[errName(err)]++
		}
	}
	for _, op := range ops {
		if taken[op] < 1000 {
			t.Errorf("operator %d was taken %d times", op, taken[op])
		}
	}
	for _, name := range []string{"ErrArg", "ErrShape", "ErrSize", "ErrType", "ErrAttr", "ErrIndex"} {
		if refused[name] < 20 {
			t.Errorf("%s was told %d times", name, refused[name])
		}
	}
}
