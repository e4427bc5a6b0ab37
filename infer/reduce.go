package infer

import (
	"slices"

	"lattice/api"
	"lattice/shape"
)

// reduced is the shape of a reduction.
func (o operation) reduced() ([]int, api.Errno) {
	axes := o.s.Axes
	if o.op == api.OpReduceSum {
		axes = nil
		if o.has(1) {
			axes = o.told[1]
		}
	}
	over, err := shape.Axes(axes, len(o.dims(0)))
	if err != api.OK {
		return nil, api.ErrShape
	}
	if len(axes) == 0 && !(o.op == api.OpReduceSum && o.s.Noop) {
		over = slices.Repeat([]bool{true}, len(over))
	}
	var dims []int
	for i, n := range o.dims(0) {
		switch {
		case !over[i]:
			dims = append(dims, n)
		case n == 0 && !o.hasAnswerOfNone():
			return nil, api.ErrShape
		case o.s.Keep:
			dims = append(dims, 1)
		}
	}
	return dims, api.OK
}

// hasAnswerOfNone: does a reduction of no elements come to something?
func (o operation) hasAnswerOfNone() bool {
	return o.op == api.OpReduceSum || o.op == api.OpReduceProd
}

// best is the shape of an ArgMax or ArgMin.
func (o operation) best() ([]int, api.Errno) {
	at := o.axis()
	dims := copied(o.dims(0))
	if dims[at] == 0 {
		return nil, api.ErrShape
	}
	if !o.s.Keep {
		return slices.Delete(dims, at, at+1), api.OK
	}
	dims[at] = 1
	return dims, api.OK
}

// averaged is the shape of a GlobalAveragePool.
func (o operation) averaged() ([]int, api.Errno) {
	d := o.dims(0)
	if len(d) < 3 || slices.Contains(d[2:], 0) {
		return nil, api.ErrShape
	}
	return slices.Concat(d[:2], slices.Repeat([]int{1}, len(d)-2)), api.OK
}

func (o operation) normedByChannels() ([]int, api.Errno) {
	d := o.dims(0)
	if len(d) < 2 {
		return nil, api.ErrShape
	}
	for i := 1; i < len(o.in); i++ {
		if !o.hasDims(i, d[1]) {
			return nil, api.ErrShape
		}
	}
	return d, api.OK
}

func (o operation) normedByRows() ([]int, api.Errno) {
	d := o.dims(0)
	row := d[o.axis():]
	return fits(o.hasDims(1, row...) && o.hasDims(2, row...) && !slices.Contains(row, 0), d)
}
