package moves

import (
	"lattice/shape"
	"lattice/tens"
)

// row is where the places along a dim begin, and how they go on.
type row struct{ start, step int }

// sliced goes along each dim by a row of its own.
func (o operation) sliced() origin {
	rows := o.rows()
	// Of the first place alone nothing is added; of more, all of them are within the dim: so nothing comes round that counts.
	return byDims(func(dim, at int) int { return rows[dim].start + at*rows[dim].step })
}

// rows are those of all dims: of one that is not named, all of it.
func (o operation) rows() []row {
	d := o.in[0].Dims
	rows := make([]row, len(d))
	for dim := range rows {
		rows[dim].step = 1
	}
	starts, _ := tens.Ints(o.in[1])
	axes, _ := tens.Ints(o.input(3))
	steps, _ := tens.Ints(o.input(4))
	for k, start := range starts {
		dim, step := k, 1
		if len(axes) > 0 {
			dim, _ = shape.Axis(axes[k], len(d))
		}
		if len(steps) > 0 {
			step = steps[k]
		}
		rows[dim] = row{begin(start, step, d[dim]), step}
	}
	return rows
}

// begin is the first place of a dim of n, whatever number was told.
func begin(start, step, n int) int {
	if step < 0 {
		return held(fromEnd(start, n), -1, n-1)
	}
	return held(fromEnd(start, n), 0, n)
}

// fromEnd is a number that counts from the end, if it is below 0.
func fromEnd(at, n int) int {
	if at < 0 {
		return at + n
	}
	return at
}

// held is a number, or the nearest of those from the low one to the high one.
func held(at, low, high int) int { return max(low, min(at, high)) }
