package moves

import (
	"lattice/api"
	"lattice/tens"
)

// dimsTold is Shape; how many dims it tells, infer has counted.
func (o operation) dimsTold() api.Tensor {
	d, out := o.in[0].Dims, o.outs[0]
	t := api.Tensor{Type: out.Type, Dims: out.Dims}
	start := held(fromEnd(o.s.Start, len(d)), 0, len(d))
	for _, n := range d[start : start+out.Dims[0]] {
		t.I = append(t.I, int64(n))
	}
	return t
}

// repeated is a tensor of a setting's single element, over and over: that comes in as inputs do, and is taken as they are.
func repeated(one api.Tensor, dims []int) api.Tensor {
	return picked(tens.Canon(one), dims, make([]int, size(dims)))
}
