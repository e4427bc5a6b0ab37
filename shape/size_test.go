package shape_test

import (
	"math/big"
	"testing"

	"lattice/api"
	"lattice/seeds"
	"lattice/shape"
)

// wantSize is P4.1 by numbers that never come round.
func wantSize(dims []int) (int, api.Errno) {
	product, err := big.NewInt(1), api.OK
	if len(dims) > 8 {
		err = api.ErrSize
	}
	for _, d := range dims {
		if d < 0 {
			return 0, api.ErrArg
		}
		if d > 4096 {
			err = api.ErrSize
		}
		product.Mul(product, big.NewInt(int64(d)))
	}
	if err != api.OK || product.Cmp(big.NewInt(4096)) > 0 {
		return 0, api.ErrSize
	}
	return int(product.Int64()), api.OK
}

// P4.1: shapes that may be, and those that are refused.
func TestSize(t *testing.T) {
	for _, c := range []struct {
		dims []int
		want int
	}{
		{nil, 1}, {dims(), 1}, {dims(0), 0}, {dims(1), 1}, {dims(5), 5}, {dims(3, 7), 21}, {dims(2, 3, 4, 5), 120},
		{dims(4095), 4095}, {dims(4096), 4096}, {dims(64, 64), 4096}, {dims(2, 2, 2, 2, 2, 2, 2, 32), 4096}, {times(8, 1), 1}, {times(8, 0), 0},
		{dims(0, 4096), 0}, {dims(4096, 4096, 0), 0}, {dims(0, 4096, 4096), 0}, {with(times(7, 4096), 0), 0}, {dims(64, 65, 0), 0},
	} {
		wantNumber(t, said("Size", c.dims), c.want, api.OK)(shape.Size(c.dims))
	}
	for _, c := range refused() {
		wantNumber(t, said("Size", c.dims[:min(10, len(c.dims))]), 0, c.err)(shape.Size(c.dims))
	}
}

// P4.1: against the product by big numbers.
func TestSizeIsProduct(t *testing.T) {
	check := func(dims []int) {
		want, err := wantSize(dims)
		wantNumber(t, said("Size", dims), want, err)(shape.Size(dims))
	}
	for _, dims := range append(shapes(4, 9), edges()...) {
		check(dims)
	}
	s := seeds.Seed(1)
	for range 50000 {
		check(anyList(&s))
	}
}

// P4.1: Strides, Index and Offset answer Size's error, ahead of their own.
func TestSizeFirst(t *testing.T) {
	for _, c := range refused() {
		call := said(" of ", c.dims[:min(10, len(c.dims))])
		wantList(t, "Strides"+call, nil, c.err)(shape.Strides(c.dims))
		for _, at := range append(dims(-1, 0, 1, 5000), outermost...) {
			wantList(t, said("Index", at, call), nil, c.err)(shape.Index(c.dims, at))
		}
		for _, index := range [][]int{nil, dims(0), dims(-1), times(len(c.dims), 0), times(len(c.dims), -1), times(len(c.dims)+1, 0)} {
			wantNumber(t, said("Offset", len(index), call), 0, c.err)(shape.Offset(c.dims, index))
		}
	}
}
