package infer

import (
	"slices"

	"lattice/api"
	"lattice/shape"
)

// moved is the shape that an operator makes which moves elements, or tells of them.
func (o operation) moved() ([]int, api.Errno) {
	d := o.dims(0)
	switch o.op {
	case api.OpTranspose:
		return o.transposed(), api.OK
	case api.OpReshape:
		return reshaped(d, o.told[1], o.s.Zero)
	case api.OpConcat:
		return o.joined()
	case api.OpSlice:
		return o.sliced()
	case api.OpGather:
		return slices.Concat(d[:o.axis()], o.dims(1), d[o.axis()+1:]), api.OK
	case api.OpGatherElements:
		return fits(o.picksWithin(), o.dims(1))
	case api.OpScatterElements:
		return fits(o.picksWithin() && o.hasDims(2, o.dims(1)...), d)
	case api.OpPad:
		return o.padded()
	case api.OpTile:
		return tiled(d, o.told[1])
	case api.OpExpand:
		return expanded(d, o.told[1])
	case api.OpSqueeze:
		return o.squeezed()
	case api.OpUnsqueeze:
		return unsqueezed(d, o.told[1])
	case api.OpFlatten:
		at := fromEnd(o.s.Axis, len(d))
		return []int{product(d[:at]), product(d[at:])}, api.OK
	case api.OpShape:
		return []int{o.dimsTold()}, api.OK
	case api.OpSize:
		return nil, api.OK
	case api.OpConstantOfShape:
		return fits(!slices.ContainsFunc(o.told[0], isBelow0), o.told[0])
	case api.OpDepthToSpace:
		return spread(d, o.s.Block)
	case api.OpSpaceToDepth:
		return stacked(d, o.s.Block)
	}
	return d, api.OK
}

// fromEnd is a number that counts from the end, if it is below 0.
func fromEnd(n, length int) int {
	if n < 0 {
		return n + length
	}
	return n
}

// held is a number, or the nearest of those from the low one to the high one.
func held(n, low, high int) int { return max(low, min(n, high)) }

func (o operation) transposed() []int {
	dims := copied(o.dims(0))
	if !o.s.HasPerm {
		slices.Reverse(dims)
		return dims
	}
	for i, p := range o.s.Perm {
		dims[i] = o.dims(0)[p]
	}
	return dims
}

func reshaped(d, told []int, zero bool) ([]int, api.Errno) {
	if len(told) > api.MaxDims {
		return nil, api.ErrSize
	}
	const none = -1
	dims, open := copied(told), none
	for i, n := range told {
		switch {
		case n == -1 && open == none:
			// For the time being, so that the product is that of the others.
			open, dims[i] = i, 1
		case n < 0 || n == 0 && !zero && i >= len(d):
			return nil, api.ErrShape
		case n == 0 && !zero:
			dims[i] = d[i]
		}
	}
	size, others := product(d), product(dims)
	if open == none {
		return fits(others == size, dims)
	}
	if others == 0 || others > api.MaxElems || size%others != 0 {
		return nil, api.ErrShape
	}
	dims[open] = size / others
	return dims, api.OK
}

// joined is the shape of a Concat.
func (o operation) joined() ([]int, api.Errno) {
	at := o.axis()
	dims := copied(o.dims(0))
	for i := 1; i < len(o.in); i++ {
		if !alikeBut(at, dims, o.dims(i)) {
			return nil, api.ErrShape
		}
		dims[at] += o.dims(i)[at]
	}
	return dims, api.OK
}

// alikeBut: are both of one rank, and all dims the same but the one at a place?
func alikeBut(at int, a, b []int) bool {
	return len(a) == len(b) && slices.Equal(a[:at], b[:at]) && slices.Equal(a[at+1:], b[at+1:])
}

// parts are the shapes of a Split.
func (o operation) parts() ([][]int, api.Errno) {
	at := o.axis()
	n := o.dims(0)[at]
	sizes, whole := slices.Repeat([]int{n / o.outs}, o.outs), n%o.outs == 0
	if o.has(1) {
		sizes, whole = o.told[1], areParts(o.told[1], o.outs, n)
	}
	if !whole {
		return nil, api.ErrShape
	}
	var shapes [][]int
	for _, size := range sizes {
		dims := copied(o.dims(0))
		dims[at] = size
		shapes = append(shapes, dims)
	}
	return shapes, api.OK
}

// areParts: are these so many numbers, none of them below 0, and together the whole?
func areParts(sizes []int, count, whole int) bool {
	if len(sizes) != count || slices.ContainsFunc(sizes, isBelow0) {
		return false
	}
	for _, n := range sizes {
		whole -= n
	}
	return whole == 0
}

// picksWithin: has the second input the rank of the first one, and no dim that is greater, but that of the axis?
func (o operation) picksWithin() bool {
	d, y, at := o.dims(0), o.dims(1), o.axis()
	if len(y) != len(d) {
		return false
	}
	for i := range d {
		if i != at && y[i] > d[i] {
			return false
		}
	}
	return true
}

func (o operation) padded() ([]int, api.Errno) {
	told, rank := o.told[1], len(o.dims(0))
	if len(told) != 2*rank || !o.hasDims(2) {
		return nil, api.ErrShape
	}
	dims := copied(o.dims(0))
	for i, n := range dims {
		ahead, behind := told[i], told[rank+i]
		if ahead < 0 || behind < 0 || !padsFit(o.s.Mode, n, max(ahead, behind)) {
			return nil, api.ErrShape
		}
		dims[i] += ahead + behind
	}
	return dims, api.OK
}

// padsFit: may a dim be padded by that mode, if the greater one of what is ahead and behind is so much?
func padsFit(mode, n, greater int) bool {
	switch mode {
	case api.ModeReflect:
		return greater == 0 || greater < n
	case api.ModeEdge:
		return greater == 0 || n != 0
	}
	return true
}

func tiled(d, told []int) ([]int, api.Errno) {
	if len(told) != len(d) || slices.ContainsFunc(told, isBelow0) {
		return nil, api.ErrShape
	}
	dims := copied(d)
	for i, n := range told {
		dims[i] *= n
	}
	return dims, api.OK
}

func expanded(d, told []int) ([]int, api.Errno) {
	if slices.ContainsFunc(told, isBelow0) {
		return nil, api.ErrShape
	}
	return shape.Broadcast(d, told)
}

func (o operation) squeezed() ([]int, api.Errno) {
	d := o.dims(0)
	if !o.has(1) {
		return slices.DeleteFunc(copied(d), func(n int) bool { return n == 1 }), api.OK
	}
	gone, err := shape.Axes(o.told[1], len(d))
	if err != api.OK {
		return nil, api.ErrShape
	}
	var dims []int
	for i, n := range d {
		switch {
		case !gone[i]:
			dims = append(dims, n)
		case n != 1:
			return nil, api.ErrShape
		}
	}
	return dims, api.OK
}

func unsqueezed(d, told []int) ([]int, api.Errno) {
	rank := len(d) + len(told)
	if rank > api.MaxDims {
		return nil, api.ErrSize
	}
	added, err := shape.Axes(told, rank)
	if err != api.OK {
		return nil, api.ErrShape
	}
	dims := make([]int, rank)
	for i, is := range added {
		if is {
			dims[i] = 1
			continue
		}
		dims[i], d = d[0], d[1:]
	}
	return dims, api.OK
}

// dimsTold is how many dims an operator Shape tells.
func (o operation) dimsTold() int {
	rank := len(o.dims(0))
	end := rank
	if o.s.HasEnd {
		end = held(fromEnd(o.s.End, rank), 0, rank)
	}
	return max(end-held(fromEnd(o.s.Start, rank), 0, rank), 0)
}

// spread is the shape of a DepthToSpace.
func spread(d []int, block int) ([]int, api.Errno) {
	if len(d) != 4 || d[1]%(block*block) != 0 {
		return nil, api.ErrShape
	}
	return []int{d[0], d[1] / (block * block), d[2] * block, d[3] * block}, api.OK
}

// stacked is the shape of a SpaceToDepth.
func stacked(d []int, block int) ([]int, api.Errno) {
	if len(d) != 4 || d[2]%block != 0 || d[3]%block != 0 {
		return nil, api.ErrShape
	}
	return []int{d[0], d[1] * block * block, d[2] / block, d[3] / block}, api.OK
}
