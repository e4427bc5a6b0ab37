package moves_test

import (
	"math"
	"math/big"
	"slices"

	"lattice/api"
	"lattice/infer"
	"lattice/tens"
)

// This file is the chapter written down a second time: elements stand by their indices in a map, and most of them are sent from x to where they go, not fetched; the tests hold the package against it.

// grid is a tensor's elements by their indices: a float32, an int64, a bool each.
type grid map[[api.MaxDims]int]any

// key is indices as a grid takes them.
func key(i []int) (k [api.MaxDims]int) {
	copy(k[:], i)
	return k
}

// eachIndex tells the indices of all elements of a shape, in row order.
func eachIndex(dims []int, tell func(i []int)) {
	if slices.Contains(dims, 0) {
		return
	}
	i := make([]int, len(dims))
	for {
		tell(slices.Clone(i))
		last := len(dims) - 1
		for last >= 0 && i[last] == dims[last]-1 {
			i[last] = 0
			last--
		}
		if last < 0 {
			return
		}
		i[last]++
	}
}

// gridOf is that of a tensor; all floats that are no numbers are one.
func gridOf(t api.Tensor) grid {
	g, n := grid{}, 0
	eachIndex(t.Dims, func(i []int) {
		switch t.Type {
		case 1:
			g[key(i)] = math.Float32frombits(t.F[n])
		case 7:
			g[key(i)] = t.I[n]
		case 9:
			g[key(i)] = t.B[n]
		}
		n++
	})
	return g
}

// tensorOf is the tensor of a grid, which has each element that there is.
func tensorOf(g grid, kind int, dims []int) api.Tensor {
	t := api.Tensor{Type: kind, Dims: slices.Clone(dims)}
	eachIndex(dims, func(i []int) {
		switch e := g[key(i)].(type) {
		case float32:
			t.F = append(t.F, bitsOf(e))
		case int64:
			t.I = append(t.I, e)
		case bool:
			t.B = append(t.B, e)
		}
	})
	return t
}

// bitsOf is a float's bits.
func bitsOf(f float32) uint32 {
	if f != f {
		return 0x7FC00000
	}
	return math.Float32bits(f)
}

// wantVals are tensors as constant values.
func wantVals(in []api.Tensor) []api.Val {
	var vals []api.Val
	for _, t := range in {
		v := api.Val{Type: t.Type, Dims: t.Dims, Const: true, T: t}
		if t.Type == 0 {
			v = api.Val{}
		}
		vals = append(vals, v)
	}
	return vals
}

// wantDo is P12.1.
func wantDo(op int, s api.Setting, in []api.Tensor, outs int) ([]api.Tensor, api.Errno) {
	if op < 45 || op > 64 || op == 61 {
		return nil, api.ErrArg
	}
	for _, t := range in {
		if t.Type == 0 {
			continue
		}
		if err := tens.Check(t); err != api.OK {
			return nil, err
		}
	}
	vals, err := infer.Node(op, s, wantVals(in), outs)
	if err != api.OK {
		return nil, err
	}
	if op == api.OpGather || op == api.OpGatherElements || op == api.OpScatterElements {
		n := int64(in[0].Dims[front(s.Axis, len(in[0].Dims))])
		for _, number := range in[1].I {
			if !(-n <= number && number <= n-1) {
				return nil, api.ErrIndex
			}
		}
	}
	grids := make([]grid, outs)
	for o := range grids {
		grids[o] = grid{}
	}
	w := wanted{op: op, s: s, in: in, d: in[0].Dims, x: gridOf(in[0]), dims: vals[0].Dims, out: grids[0]}
	switch {
	case op == api.OpSplit:
		w.split(vals, grids)
	case !w.shuffled() && !w.named() && !w.laid():
		w.asTold()
	}
	var list []api.Tensor
	for o, v := range vals {
		list = append(list, tensorOf(grids[o], v.Type, v.Dims))
	}
	return list, api.OK
}

// wanted is an operation that is taken: d and x are the first input's dims and elements; the elements of the output, whose dims are told, go into out.
type wanted struct {
	op   int
	s    api.Setting
	in   []api.Tensor
	d    []int
	x    grid
	dims []int
	out  grid
}

// front is a number counted from the front, of one that may be counted from the end.
func front(n, length int) int {
	if n < 0 {
		n += length
	}
	return n
}

func (w wanted) has(i int) bool { return i < len(w.in) && w.in[i].Type != 0 }

func (w wanted) axis() int { return front(w.s.Axis, len(w.d)) }

// list is what a told list says.
func (w wanted) list(i int) []int {
	var list []int
	for _, n := range w.in[i].I {
		list = append(list, int(n))
	}
	return list
}

// send goes through x: each element goes to the indices that are told.
func (w wanted) send(to func(j []int) []int) {
	eachIndex(w.d, func(j []int) { w.out[key(to(slices.Clone(j)))] = w.x[key(j)] })
}

// split sends x's elements each to the output that has its place.
func (w wanted) split(vals []api.Val, grids []grid) {
	at := w.axis()
	eachIndex(w.d, func(j []int) {
		i, o := slices.Clone(j), 0
		for i[at] >= vals[o].Dims[at] {
			i[at] -= vals[o].Dims[at]
			o++
		}
		grids[o][key(i)] = w.x[key(j)]
	})
}

// shuffled are the operators that send each element of x somewhere, and lay nothing else.
func (w wanted) shuffled() bool {
	b := w.s.Block
	switch w.op {
	case api.OpTranspose:
		w.send(func(j []int) []int {
			i := slices.Clone(j)
			slices.Reverse(i)
			for k, p := range w.s.Perm {
				if w.s.HasPerm {
					i[k] = j[p]
				}
			}
			return i
		})
	case api.OpTile:
		times := w.list(1)
		eachIndex(times, func(tile []int) {
			w.send(func(j []int) []int {
				for k := range j {
					j[k] += tile[k] * w.d[k]
				}
				return j
			})
		})
	case api.OpDepthToSpace:
		w.send(func(j []int) []int {
			c := w.d[1] / (b * b)
			row, column, depth := j[1]/c/b, j[1]/c%b, j[1]%c
			if w.s.Mode == api.ModeCRD {
				depth, row, column = j[1]/(b*b), j[1]/b%b, j[1]%b
			}
			return []int{j[0], depth, j[2]*b + row, j[3]*b + column}
		})
	case api.OpSpaceToDepth:
		w.send(func(j []int) []int {
			return []int{j[0], (j[2]%b*b+j[3]%b)*w.d[1] + j[1], j[2] / b, j[3] / b}
		})
	default:
		return false
	}
	return true
}

// named are the operators that are told which places they take.
func (w wanted) named() bool {
	switch w.op {
	case api.OpSlice:
		w.sliced()
	case api.OpGather:
		at := w.axis()
		y := gridOf(w.in[1])
		eachIndex(w.d[:at], func(head []int) {
			eachIndex(w.in[1].Dims, func(middle []int) {
				eachIndex(w.d[at+1:], func(tail []int) {
					n := front(int(y[key(middle)].(int64)), w.d[at])
					w.out[key(slices.Concat(head, middle, tail))] = w.x[key(slices.Concat(head, []int{n}, tail))]
				})
			})
		})
	case api.OpGatherElements:
		y := gridOf(w.in[1])
		eachIndex(w.in[1].Dims, func(i []int) {
			j := slices.Clone(i)
			j[w.axis()] = front(int(y[key(i)].(int64)), w.d[w.axis()])
			w.out[key(i)] = w.x[key(j)]
		})
	case api.OpScatterElements:
		w.scattered()
	default:
		return false
	}
	return true
}

// sliced: along each axis that is named, the places by which chapter 10 goes.
func (w wanted) sliced() {
	rows := make([][]int, len(w.d))
	for k, n := range w.d {
		rows[k] = wantPlaces(n, 0, n, 1)
	}
	for k, start := range w.list(1) {
		axis, step := k, 1
		if w.has(3) {
			axis = front(w.list(3)[k], len(w.d))
		}
		if w.has(4) {
			step = w.list(4)[k]
		}
		rows[axis] = wantPlaces(w.d[axis], start, w.list(2)[k], step)
	}
	eachIndex(w.dims, func(i []int) {
		j := slices.Clone(i)
		for k := range j {
			j[k] = rows[k][i[k]]
		}
		w.out[key(i)] = w.x[key(j)]
	})
}

// wantPlaces are the places of a slice, by numbers without an end.
func wantPlaces(n, start, end, step int) []int {
	low, high := 0, n
	if step < 0 {
		low, high = -1, n-1
	}
	hold := func(at int) *big.Int { return big.NewInt(int64(min(max(front(at, n), low), high))) }
	var places []int
	at, last := hold(start), hold(end)
	for step > 0 && at.Cmp(last) < 0 || step < 0 && at.Cmp(last) > 0 {
		places = append(places, int(at.Int64()))
		at.Add(at, big.NewInt(int64(step)))
	}
	return places
}

// scattered lays z's elements in the order of y's.
func (w wanted) scattered() {
	w.send(func(j []int) []int { return j })
	y, z := gridOf(w.in[1]), gridOf(w.in[2])
	eachIndex(w.in[1].Dims, func(i []int) {
		j := slices.Clone(i)
		j[w.axis()] = front(int(y[key(i)].(int64)), w.d[w.axis()])
		old, more := w.out[key(j)], z[key(i)]
		switch e := more.(type) {
		case float32:
			switch w.s.Mode {
			case api.ModeAdd:
				more = old.(float32) + e
			case api.ModeMul:
				more = old.(float32) * e
			}
		case int64:
			switch w.s.Mode {
			case api.ModeAdd:
				more = old.(int64) + e
			case api.ModeMul:
				more = old.(int64) * e
			}
		}
		w.out[key(j)] = more
	})
}

// laid are the operators that lay x, or inputs, into something greater.
func (w wanted) laid() bool {
	switch w.op {
	case api.OpConcat:
		ahead := 0
		for _, t := range w.in {
			one := gridOf(t)
			eachIndex(t.Dims, func(j []int) {
				i := slices.Clone(j)
				i[w.axis()] += ahead
				w.out[key(i)] = one[key(j)]
			})
			ahead += t.Dims[w.axis()]
		}
	case api.OpPad:
		w.padded()
	case api.OpExpand:
		eachIndex(w.dims, func(i []int) {
			j := slices.Clone(i[len(i)-len(w.d):])
			for k, n := range w.d {
				if n == 1 {
					j[k] = 0
				}
			}
			w.out[key(i)] = w.x[key(j)]
		})
	default:
		return false
	}
	return true
}

// padded: along each dim a row of places is made longer at both ends; -1 is none.
func (w wanted) padded() {
	pads := w.list(1)
	rows := make([][]int, len(w.d))
	for k, n := range w.d {
		for at := range n {
			rows[k] = append(rows[k], at)
		}
		for p := 1; p <= pads[k]; p++ {
			rows[k] = slices.Insert(rows[k], 0, map[int]int{api.ModeEdge: 1, api.ModeReflect: p + 1}[w.s.Mode]-1)
		}
		for p := 1; p <= pads[len(w.d)+k]; p++ {
			rows[k] = append(rows[k], map[int]int{api.ModeEdge: n, api.ModeReflect: n - p}[w.s.Mode]-1)
		}
	}
	other := map[int]any{1: float32(0), 7: int64(0), 9: false}[w.in[0].Type]
	if w.has(2) {
		other = gridOf(w.in[2])[key(nil)]
	}
	eachIndex(w.dims, func(i []int) {
		j := slices.Clone(i)
		for k := range j {
			j[k] = rows[k][i[k]]
		}
		e, there := w.x[key(j)]
		if !there {
			e = other
		}
		w.out[key(i)] = e
	})
}

// asTold are the operators whose answer is all there, in order.
func (w wanted) asTold() {
	var list []any
	switch w.op {
	case api.OpShape:
		start, end := w.s.Start, len(w.d)
		if w.s.HasEnd {
			end = front(w.s.End, len(w.d))
		}
		for k, n := range w.d {
			if k >= front(start, len(w.d)) && k < end {
				list = append(list, int64(n))
			}
		}
	case api.OpSize:
		n := int64(0)
		eachIndex(w.d, func([]int) { n++ })
		list = []any{n}
	case api.OpConstantOfShape:
		eachIndex(w.dims, func([]int) {
			for _, e := range gridOf(w.s.Value) {
				list = append(list, e)
			}
		})
	default:
		eachIndex(w.d, func(j []int) { list = append(list, w.x[key(j)]) })
	}
	eachIndex(w.dims, func(i []int) {
		w.out[key(i)], list = list[0], list[1:]
	})
}
