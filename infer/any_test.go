package infer_test

import (
	"fmt"
	"math"
	"slices"
	"testing"

	"lattice/api"
	"lattice/graph"
	"lattice/infer"
	"lattice/seeds"
)

// node is what Node is asked.
type node struct {
	op   int
	s    api.Setting
	in   []api.Val
	outs int
}

// maker makes nodes by chance that are most often taken.
type maker struct{ s seeds.Seed }

func (m *maker) below(n int) int { return m.s.Below(n) }

func (m *maker) maybe() bool { return m.below(2) == 0 }

// oneOf is one of a list.
func (m *maker) oneOf(list ...int) int { return list[m.below(len(list))] }

func (m *maker) dim() int { return m.oneOf(0, 1, 1, 2, 2, 3, 3, 4, 5, 6) }

func (m *maker) shape(rank int) []int {
	dims := make([]int, rank)
	for i := range dims {
		dims[i] = m.dim()
	}
	return dims
}

func (m *maker) anyType() int { return m.oneOf(api.Float, api.Int, api.Bool) }

// axis is one of so many dims, counted from one end or the other; 0, if there are none.
func (m *maker) axis(rank int) int {
	if rank == 0 {
		return 0
	}
	return m.below(2*rank) - rank
}

// axes are some of so many, none twice.
func (m *maker) axes(rank int) []int {
	list := []int{}
	for i := range rank {
		if m.below(3) == 0 {
			list = append(list, i-rank*m.below(2))
		}
	}
	for i := len(list) - 1; i > 0; i-- {
		j := m.below(i + 1)
		list[i], list[j] = list[j], list[i]
	}
	return list
}

// lower is a shape that goes together with another one, as that.
func (m *maker) lower(dims []int) []int {
	small := slices.Clone(dims[m.below(len(dims)+1):])
	for i := range small {
		if m.below(3) == 0 {
			small[i] = 1
		}
	}
	return small
}

// setting is one with something in each field, such as resolving might answer.
func (m *maker) setting(rank int) api.Setting {
	s := api.Setting{Axis: m.axis(rank), Axes: m.axes(rank), HasAxes: m.maybe(), Keep: m.maybe(), Noop: m.maybe(), Zero: m.below(4) == 0, Fmod: m.maybe(),
		To: m.anyType(), Mode: m.below(8), TransA: m.maybe(), TransB: m.maybe(), Group: 1 + m.below(2), Auto: m.oneOf(0, 0, 0, 8, 9, 10), Ceil: m.maybe(),
		Block: m.oneOf(1, 2, 2, 3), Start: m.below(9) - 4, End: m.below(9) - 4, HasEnd: m.maybe(), Value: zeros(m.anyType(), []int{1, 1}[:m.below(3)]...)}
	if m.maybe() {
		s.Strides = []int{1 + m.below(3), 1 + m.below(3)}
	}
	if m.maybe() {
		s.Dilations = []int{1 + m.below(2), 1 + m.below(2)}
	}
	if m.maybe() {
		s.Pads = []int{m.below(3), m.below(3), m.below(3), m.below(3)}
	}
	return s
}

// any makes a node of an operator.
func (m *maker) any(op int) node {
	x := api.Val{Type: m.anyType(), Dims: m.shape(m.below(5))}
	n := node{op: op, s: m.setting(len(x.Dims)), outs: 1}
	what := allSigns[op]
	slots := what.slots()
	count := len(slots)
	for count > 0 && slots[count-1].may && m.below(3) == 0 {
		count--
	}
	count = min(count, 6)
	for i := range count {
		v := api.Val{Type: x.Type, Dims: m.lower(x.Dims)}
		switch slots[i].letter {
		case 'F':
			v.Type = api.Float
		case 'I':
			v.Type = api.Int
		case 'B':
			v.Type = api.Bool
		case 'N':
			v.Type = m.oneOf(api.Float, api.Int)
		case 'A':
			v.Type = m.anyType()
		case 'X':
			v.Type = n.in[0].Type
		case 'Y':
			v.Type = n.in[1].Type
		case 'T':
			v = told(m.axes(len(x.Dims))...)
		}
		if i == 0 && slots[0].letter != 'T' {
			v.Dims = x.Dims
		}
		if slots[i].may && op != api.OpConcat && m.below(4) == 0 {
			v = api.Val{}
		}
		n.in = append(n.in, v)
	}
	m.shapeInputs(&n)
	return n
}

// put makes the dims of an input other ones, if it is there.
func (n *node) put(i int, dims ...int) {
	if there(n.in, i) {
		n.in[i].Dims = dims
	}
}

// say makes an input that is there a told list.
func (n *node) say(i int, list ...int) {
	if there(n.in, i) {
		n.in[i] = told(list...)
	}
}

// shapeInputs makes inputs such that fit.
func (m *maker) shapeInputs(n *node) {
	if len(n.in) == 0 {
		return
	}
	d := n.in[0].Dims
	r := len(d)
	at := n.s.Axis
	if at < 0 {
		at += r
	}
	switch n.op {
	case api.OpTranspose:
		n.s.HasPerm = m.maybe()
		n.s.Perm = through(0, r-1)
		for i := r - 1; i > 0; i-- {
			j := m.below(i + 1)
			n.s.Perm[i], n.s.Perm[j] = n.s.Perm[j], n.s.Perm[i]
		}
	case api.OpClip, api.OpPad:
		n.put(1)
		n.put(2)
		if n.op == api.OpPad {
			var list []int
			for range 2 * r {
				list = append(list, m.below(3))
			}
			n.say(1, list...)
		}
	case api.OpReshape:
		m.reshape(n, d)
	case api.OpConcat:
		m.concat(n, d, at)
	case api.OpSplit:
		m.split(n, d, at)
	case api.OpSlice:
		m.slice(n, r)
	case api.OpGather:
		n.put(1, m.shape(m.below(3))...)
	case api.OpGatherElements, api.OpScatterElements:
		y := slices.Clone(d)
		for i := range y {
			y[i] = m.below(d[i] + 1)
			if i == at {
				y[i] = m.dim()
			}
		}
		n.put(1, y...)
		n.put(2, slices.Clone(y)...)
	case api.OpTile:
		n.say(1, m.shape(r)...)
	case api.OpExpand:
		n.say(1, append(m.shape(m.below(2)), m.lower(d)...)...)
	case api.OpSqueeze:
		m.squeeze(n, r)
	case api.OpUnsqueeze:
		more := m.below(3)
		list := m.axes(r + more)
		n.say(1, list[:min(len(list), more)]...)
	case api.OpConstantOfShape:
		n.say(0, m.shape(m.below(4))...)
	case api.OpDepthToSpace, api.OpSpaceToDepth:
		b := n.s.Block
		n.in[0].Dims = []int{m.dim(), m.below(3) * b * b, m.below(3) * b, m.below(3) * b}
	default:
		m.shapeProducts(n, d, at)
	}
}

func (m *maker) reshape(n *node, d []int) {
	list := slices.Clone(d)
	if len(list) > 1 && m.maybe() {
		list = append([]int{list[0] * list[1]}, list[2:]...)
	}
	for range m.below(3) {
		list = slices.Insert(list, m.below(len(list)+1), 1)
	}
	if len(list) > 0 && m.below(3) > 0 {
		list[m.below(len(list))] = -1
	}
	for i := range list {
		if i < len(d) && list[i] == d[i] && m.below(4) == 0 {
			list[i] = 0
		}
	}
	n.say(1, list...)
}

func (m *maker) concat(n *node, d []int, at int) {
	for i := 1; i < len(n.in); i++ {
		n.in[i].Dims = slices.Clone(d)
		if len(d) > 0 {
			n.in[i].Dims[at] = m.dim()
		}
	}
}

func (m *maker) split(n *node, d []int, at int) {
	n.outs = 1 + m.below(3)
	if len(d) == 0 {
		return
	}
	list, rest := []int{}, d[at]
	for range n.outs - 1 {
		list = append(list, m.below(rest+1))
		rest -= list[len(list)-1]
	}
	n.say(1, append(list, rest)...)
	if !there(n.in, 1) && m.below(3) > 0 {
		d[at] = n.outs * m.below(3)
	}
}

func (m *maker) slice(n *node, r int) {
	axes := m.axes(r)
	starts, ends, steps := []int{}, []int{}, []int{}
	number := func() int { return m.oneOf(m.below(19)-9, m.below(5), -m.below(5), math.MaxInt, math.MinInt) }
	for range axes {
		starts, ends = append(starts, number()), append(ends, number())
		steps = append(steps, m.oneOf(1, 2, 3, -1, -2, -3, 5, -5, math.MaxInt, math.MinInt))
	}
	n.say(1, starts...)
	n.say(2, ends...)
	n.say(3, axes...)
	n.say(4, steps...)
}

func (m *maker) squeeze(n *node, r int) {
	list := m.axes(r)
	for _, axis := range list {
		if axis < 0 {
			axis += r
		}
		if there(n.in, 1) {
			n.in[0].Dims[axis] = 1
		}
	}
	n.say(1, list...)
}

// shapeProducts: likewise of reductions, products, windows and norms.
func (m *maker) shapeProducts(n *node, d []int, at int) {
	a, b, c := m.dim(), m.dim(), m.dim()
	switch n.op {
	case api.OpReduceSum:
		n.say(1, m.axes(len(d))...)
	case api.OpMatMul:
		many := m.shape(m.below(3))
		n.in[0].Dims = append(m.lower(many), a, b)
		n.in[1].Dims = append(m.lower(many), b, c)
		if m.below(4) == 0 {
			n.in[0].Dims = []int{b}
		}
		if m.below(4) == 0 {
			n.in[1].Dims = []int{b}
		}
	case api.OpGemm:
		n.in[0].Dims, n.in[1].Dims = []int{a, b}, []int{b, c}
		if n.s.TransA {
			n.in[0].Dims = []int{b, a}
		}
		if n.s.TransB {
			n.in[1].Dims = []int{c, b}
		}
		n.put(2, m.lower([]int{a, c})...)
	case api.OpConv:
		g := n.s.Group
		h, w := 1+m.below(3), 1+m.below(3)
		n.in[0].Dims = []int{a, (1 + m.below(2)) * g, 2 + m.below(6), 2 + m.below(6)}
		n.in[1].Dims = []int{(1 + m.below(2)) * g, n.in[0].Dims[1] / g, h, w}
		n.put(2, n.in[1].Dims[0])
		if m.maybe() {
			n.s.Kernel = []int{h, w}
		}
	case api.OpMaxPool, api.OpAveragePool:
		n.in[0].Dims = []int{a, b, 2 + m.below(6), 2 + m.below(6)}
		n.s.Kernel = []int{1 + m.below(3), 1 + m.below(3)}
	case api.OpGlobalAveragePool:
		n.in[0].Dims = append([]int{a, b}, 1+m.below(3), 1+m.below(3), 1+m.below(3))[:3+m.below(3)]
	case api.OpBatchNormalization:
		n.in[0].Dims = append([]int{a, b}, d...)
		for i := range 4 {
			n.put(i+1, b)
		}
	case api.OpLayerNormalization:
		if len(d) > 0 {
			n.put(1, slices.Clone(d[at:])...)
			n.put(2, slices.Clone(d[at:])...)
		}
	}
}

// spoil makes one thing other than it was; most often it is wrong then.
func (m *maker) spoil(n *node) {
	if len(n.in) == 0 || m.below(30) == 0 {
		n.op, n.outs = m.oneOf(n.op, 0, 81, m.below(81)), m.oneOf(0, 1, 2, 3, 64, 65)
		return
	}
	v := &n.in[m.below(len(n.in))]
	odd := m.oneOf(-1, 0, 1, 2, 3, 7, 64, 65, 4096, 4097, -2, math.MaxInt, math.MinInt)
	switch m.below(12) {
	case 0:
		v.Type = m.oneOf(api.Float, api.Int, api.Bool, api.Float, api.Int, api.Bool, api.None, 6)
	case 1:
		v.Dims = m.shape(m.below(7))
	case 2:
		if len(v.Dims) > 0 {
			v.Dims = slices.Clone(v.Dims)
			v.Dims[m.below(len(v.Dims))] = odd
		}
	case 3:
		v.Dims = append(slices.Clone(v.Dims), m.oneOf(1, 1, 1, 2, 0))
	case 4:
		v.Const = false
	case 5:
		*v = told(append(m.shape(m.below(4)), odd)...)
	case 6:
		*v = constant(zeros(api.Int, m.shape(m.below(3))...))
	case 7:
		n.in = n.in[:m.below(len(n.in)+1)]
	default:
		m.spoilSetting(&n.s, odd)
	}
}

func (m *maker) spoilSetting(s *api.Setting, odd int) {
	list := []*[]int{&s.Axes, &s.Perm, &s.Kernel, &s.Strides, &s.Pads, &s.Dilations}[m.below(6)]
	switch m.below(6) {
	case 0:
		s.Axis = odd
	case 1:
		s.To, s.Group, s.Block, s.Mode = odd, odd, odd, m.below(12)-1
	case 2:
		*list = m.shape(m.below(6))
	case 3:
		*list = slices.Clone(*list)
		if len(*list) > 0 {
			(*list)[m.below(len(*list))] = odd
		}
	case 4:
		s.Value = []api.Tensor{zeros(api.Int, 2), {}, zeros(4, 1), {Type: api.Float, Dims: []int{1}}, zeros(api.Bool, 1, 1)}[m.below(5)]
	case 5:
		s.Start, s.End, s.HasPerm = odd, odd, !s.HasPerm
	}
}

// P10.1: nodes by chance, against the chapter written down a second time.
func TestAnyNodes(t *testing.T) {
	m := maker{seeds.Seed(101)}
	taken, refused := map[int]int{}, map[string]int{}
	for i := range 250000 {
		n := m.any(1 + i%api.Ops)
		for range m.below(4) {
			m.spoil(&n)
		}
		want, wantErr := wantNode(n.op, n.s, n.in, n.outs)
		got, err := infer.Node(n.op, n.s, n.in, n.outs)
		if err != wantErr || !alike(got, want) {
			t.Fatalf("%s: %s, want %s", short(n), words(got, err), words(want, wantErr))
		}
		if err == api.OK {
			taken[n.op]++
		} else {
			refused[errName(err)]++
		}
	}
	for op := 1; op <= api.Ops; op++ {
		if taken[op] < 250 && op != api.OpConstant {
			t.Errorf("operator %d was taken %d times", op, taken[op])
		}
	}
	for _, name := range []string{"ErrArg", "ErrShape", "ErrSize", "ErrType", "ErrAttr", "ErrConst"} {
		if refused[name] < 1800 {
			t.Errorf("what was tried is one-sided: %v", refused)
		}
	}
}

// anyGraph is one by chance, whose nodes are most often taken.
func (m *maker) anyGraph() api.Graph {
	var g api.Graph
	put := func(v api.Val) int {
		g.Vals = append(g.Vals, v)
		return len(g.Vals) - 1
	}
	for range 1 + m.below(6) {
		n := m.any(1 + m.below(api.Ops))
		if m.below(12) == 0 {
			m.spoil(&n)
		}
		made := api.GNode{Op: n.op, S: n.s, Source: m.below(50) - 5}
		for _, v := range n.in {
			made.In = append(made.In, m.place(&g, v, put))
		}
		for range max(n.outs, 0) {
			// What stands there is nothing that counts.
			made.Out = append(made.Out, put(api.Val{Type: m.below(10), Dims: m.shape(m.below(3)), T: zeros(api.Int, 1)}))
		}
		g.Nodes = append(g.Nodes, made)
		if list, err := wantNode(n.op, n.s, n.in, n.outs); err == api.OK {
			for i, v := range made.Out {
				g.Vals[v].Type, g.Vals[v].Dims = list[i].Type, list[i].Dims
			}
		}
	}
	for range m.below(3) {
		g.Outputs = append(g.Outputs, m.below(len(g.Vals)))
	}
	if m.maybe() {
		put(api.Val{Type: 77, Dims: []int{-5}})
	}
	return g
}

// place is the number of a value: one that was there, if it fits, or a new one, a constant or an input.
func (m *maker) place(g *api.Graph, v api.Val, put func(api.Val) int) int {
	if v.Type == api.None {
		return -1
	}
	for i, old := range g.Vals {
		if old.Const == v.Const && old.Type == v.Type && slices.Equal(old.Dims, v.Dims) && (!v.Const || alike(old.T, v.T)) && m.maybe() {
			return i
		}
	}
	if !v.Const && wantSize(v.Dims) >= 0 && m.below(3) == 0 {
		v = constant(zeros(v.Type, v.Dims...))
	}
	i := put(v)
	if !v.Const {
		g.Inputs = append(g.Inputs, i)
	}
	return i
}

// P10.3, P10.4: graphs by chance, against the chapter written down a second time; what is answered is taken again, and the same.
func TestAnyGraphs(t *testing.T) {
	m := maker{seeds.Seed(103)}
	count := map[string]int{}
	for range 30000 {
		g := m.anyGraph()
		if m.below(12) == 0 {
			m.spoilGraph(&g)
		}
		want, wantErr, wantAt := wantOf(g)
		if err := graph.Check(g); err != api.OK {
			want, wantErr, wantAt = api.Graph{}, err, -1
		}
		got, err, at := infer.Of(g)
		if err != wantErr || at != wantAt || !alike(got, want) {
			t.Fatalf("%s: %s, %v at %d, want %s, %v at %d", short(g), short(got), err, at, short(want), wantErr, wantAt)
		}
		if err == api.OK {
			againTaken(t, got)
		}
		count[fmt.Sprint(errName(err), " ", at == -1)]++
	}
	for _, way := range []string{"OK false", "ErrName true", "ErrShape true", "ErrSize true", "ErrType true", "ErrShape false", "ErrSize false", "ErrType false", "ErrAttr false", "ErrArg false"} {
		if count[way] < 15 {
			t.Errorf("what was tried is one-sided: %v", count)
		}
	}
}

func (m *maker) spoilGraph(g *api.Graph) {
	v := &g.Vals[m.below(len(g.Vals))]
	switch m.below(6) {
	case 0:
		v.Type = m.oneOf(0, 2, 6, 8)
	case 1:
		v.Dims = append(slices.Clone(v.Dims), m.oneOf(-1, 4097, 65))
	case 2:
		v.T = zeros(m.anyType(), m.dim())
	case 3:
		v.Const = !v.Const
	case 4:
		g.Inputs = append(g.Inputs, m.below(len(g.Vals)))
	case 5:
		g.Outputs = append(g.Outputs, m.oneOf(-1, 0, len(g.Vals)))
	}
}

// againTaken: P10.4 of a graph that Of has answered.
func againTaken(t *testing.T, g api.Graph) {
	t.Helper()
	again, err, at := infer.Of(g)
	if err != api.OK || at != 0 || !alike(again, g) {
		t.Fatalf("%s: again %s, %v at %d", short(g), short(again), err, at)
	}
	for _, n := range g.Nodes {
		for _, v := range append(slices.Clone(n.Out), n.In...) {
			if v >= 0 && (wantSize(g.Vals[v].Dims) < 0 || !slices.Contains([]int{api.Float, api.Int, api.Bool}, g.Vals[v].Type)) {
				t.Fatalf("%s: value %d may not be", short(g), v)
			}
		}
	}
}
