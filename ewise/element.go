package ewise

import (
	"lattice/api"
	"lattice/shape"
	"lattice/soft"
	"lattice/tens"
)

// element is one of a tensor; which field counts, the tensor's type tells.
type element struct {
	float uint32
	whole int64
	truth bool
}

// does is what is done to an element of each input; what is left out is zero.
type does func(a, b, c element) element

// row is what an operator does, by the type of its first input; where it takes no such, there is nothing.
type row struct{ float, whole, truth does }

// of is what is done, if the first input is of that type.
func (r row) of(kind int) does {
	switch kind {
	case api.Float:
		return r.float
	case api.Int:
		return r.whole
	}
	return r.truth
}

// elements are those of the output from lo on, below hi, in one dim.
func (o operation) elements(lo, hi int) api.Tensor {
	t, _ := tens.New(o.out.Type, []int{hi - lo})
	do := o.row().of(o.in[0].Type)
	for at := lo; at < hi; at++ {
		write(t, at-lo, do(o.input(0, at), o.input(1, at), o.input(2, at)))
	}
	return t
}

// input is the element of an input that the output's at a place is made of.
func (o operation) input(i, at int) element {
	if !o.has(i) {
		return element{}
	}
	from, _ := shape.From(o.in[i].Dims, o.out.Dims, at)
	return read(o.in[i], from)
}

// read takes an element out of a tensor.
func read(t api.Tensor, at int) element {
	switch t.Type {
	case api.Float:
		return element{float: t.F[at]}
	case api.Int:
		return element{whole: t.I[at]}
	}
	return element{truth: t.B[at]}
}

// write puts an element into a tensor that is new.
func write(t api.Tensor, at int, e element) {
	switch t.Type {
	case api.Float:
		// To all that is done to floats the no numbers are alike, so it is enough that one of them alone is put down.
		t.F[at] = soft.Canon(e.float)
	case api.Int:
		t.I[at] = e.whole
	case api.Bool:
		t.B[at] = e.truth
	}
}

// float1 does to an element what is done to one float; the next ones likewise, of as many floats, whole numbers or truths as they are named for. Tests tell a truth of them.
func float1(do func(a uint32) uint32) does {
	return func(a, _, _ element) element { return element{float: do(a.float)} }
}

func float2(do func(a, b uint32) uint32) does {
	return func(a, b, _ element) element { return element{float: do(a.float, b.float)} }
}

func whole1(do func(a int64) int64) does {
	return func(a, _, _ element) element { return element{whole: do(a.whole)} }
}

func whole2(do func(a, b int64) int64) does {
	return func(a, b, _ element) element { return element{whole: do(a.whole, b.whole)} }
}

func truth2(do func(a, b bool) bool) does {
	return func(a, b, _ element) element { return element{truth: do(a.truth, b.truth)} }
}

func floatTest(is func(a, b uint32) bool) does {
	return func(a, b, _ element) element { return element{truth: is(a.float, b.float)} }
}

func wholeTest(is func(a, b int64) bool) does {
	return func(a, b, _ element) element { return element{truth: is(a.whole, b.whole)} }
}
