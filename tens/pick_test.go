package tens_test

import (
	"math"
	"testing"

	"lattice/api"
	"lattice/seeds"
	"lattice/tens"
)

// wantPick is P5.3's tensor, taken one by one.
func wantPick(x api.Tensor, dims, at []int) api.Tensor {
	want := api.Tensor{Type: x.Type, Dims: dims}
	for _, a := range at {
		switch x.Type {
		case api.Float:
			want.F = append(want.F, append([]uint32{0}, x.F...)[a+1])
		case api.Int:
			want.I = append(want.I, append([]int64{0}, x.I...)[a+1])
		case api.Bool:
			want.B = append(want.B, append([]bool{false}, x.B...)[a+1])
		}
	}
	return want
}

// anyPlaces are places of a tensor of n elements, -1 among them.
func anyPlaces(s *seeds.Seed, count, n int) []int {
	at := make([]int, count)
	for i := range at {
		at[i] = s.Below(n+1) - 1
	}
	return at
}

// P5.3: elements at places, noughts at -1, of each type and into each shape.
func TestPick(t *testing.T) {
	s := seeds.Seed(2)
	for _, k := range kinds {
		for _, from := range shapes() {
			x := filled(k.kind, from)
			for _, dims := range shapes() {
				if product(from) > 1000 && product(dims) > 1000 {
					continue
				}
				at := anyPlaces(&s, product(dims), product(from))
				wantTensor(t, said("Pick ", k.kind, from, dims), wantPick(x, dims, at), api.OK)(tens.Pick(x, dims, at))
			}
		}
	}
}

// P5.3: all of one place, the first, the last, and none.
func TestPickOnePlace(t *testing.T) {
	for _, k := range kinds {
		for _, n := range list(0, 1, 5, 4096) {
			x := filled(k.kind, list(n))
			for _, a := range list(-1, 0, n-1) {
				if a >= n {
					continue
				}
				at := times(3, a)
				wantTensor(t, said("Pick ", k.kind, n, at), wantPick(x, list(3), at), api.OK)(tens.Pick(x, list(3), at))
			}
		}
	}
}

// P5.3: places just outside, anywhere among others.
func TestPickRefusesPlaces(t *testing.T) {
	for _, k := range kinds {
		for _, n := range list(0, 1, 6, 4096) {
			x := filled(k.kind, list(n))
			for _, wrong := range list(-2, n, n+1, -3, math.MinInt, math.MinInt+1, math.MaxInt, 1<<32-1, 1<<32) {
				for i := range 4 {
					at := times(4, min(n, 1)-1)
					at[i] = wrong
					wantTensor(t, said("Pick ", k.kind, n, at), api.Tensor{}, api.ErrPlace)(tens.Pick(x, list(2, 2), at))
				}
			}
		}
	}
}

// P5.3: Check's error, that of the dims, that of the count, and that of a place, in this order.
func TestPickFirstError(t *testing.T) {
	for _, c := range refusedTensors() {
		wantTensor(t, said("Pick of ", short(c.t)), api.Tensor{}, c.err)(tens.Pick(c.t, list(1), list(0)))
		wantTensor(t, said("Pick of ", short(c.t), " by none"), api.Tensor{}, c.err)(tens.Pick(c.t, list(0), nil))
		for _, s := range refusedShapes()[:8] {
			wantTensor(t, said("Pick of ", short(c.t), s.dims), api.Tensor{}, c.err)(tens.Pick(c.t, s.dims, list(-2)))
		}
	}
	for _, k := range kinds {
		x := filled(k.kind, list(2))
		for _, s := range refusedShapes() {
			for _, at := range [][]int{nil, {0}, {-2}, {2, 3}, times(8, 0)} {
				wantTensor(t, said("Pick ", k.kind, s.dims, at), api.Tensor{}, s.err)(tens.Pick(x, s.dims, at))
			}
		}
		for _, dims := range shapes() {
			for _, n := range list(0, 1, 2, 3, 4097, product(dims)-1, product(dims)+1) {
				if n < 0 || n == product(dims) {
					continue
				}
				for _, a := range list(-2, -1, 0, 2) {
					wantTensor(t, said("Pick ", k.kind, dims, n, " of ", a), api.Tensor{}, api.ErrShape)(tens.Pick(x, dims, times(n, a)))
				}
			}
		}
	}
}

// P5.4: a row of whole numbers, one alone, and none.
func TestInts(t *testing.T) {
	all := make([]int, len(wholes))
	for i, n := range wholes {
		all[i] = int(n)
	}
	wantRow(t, "Ints of a row", all, api.OK)(tens.Ints(whole(wholes...)))
	wantRow(t, "Ints of one", list(-9), api.OK)(tens.Ints(api.Tensor{Type: api.Int, I: []int64{-9}}))
	wantRow(t, "Ints of one, dims empty", list(1<<40), api.OK)(tens.Ints(api.Tensor{Type: api.Int, Dims: list(), I: []int64{1 << 40}}))
	wantRow(t, "Ints of none", []int(nil), api.OK)(tens.Ints(whole()))
	long := filled(api.Int, list(4096))
	got, err := tens.Ints(long)
	if err != api.OK || len(got) != 4096 {
		t.Fatalf("Ints of 4096: %d, %v", len(got), err)
	}
	for i, n := range got {
		if int64(n) != long.I[i] {
			t.Fatalf("Ints of 4096: at %d %d, want %d", i, n, long.I[i])
		}
	}
}

// P5.4: Check's error, that of the type, and that of the dims, in this order.
func TestIntsRefuses(t *testing.T) {
	for _, c := range refusedTensors() {
		wantRow(t, said("Ints of ", short(c.t)), []int(nil), c.err)(tens.Ints(c.t))
	}
	for _, dims := range shapes() {
		wantRow(t, said("Ints of floats ", dims), []int(nil), api.ErrType)(tens.Ints(filled(api.Float, dims)))
		wantRow(t, said("Ints of bools ", dims), []int(nil), api.ErrType)(tens.Ints(filled(api.Bool, dims)))
		if len(dims) >= 2 {
			wantRow(t, said("Ints of ", dims), []int(nil), api.ErrShape)(tens.Ints(filled(api.Int, dims)))
		}
	}
}
