package tens_test

import (
	"slices"
	"testing"

	"lattice/api"
	"lattice/seeds"
	"lattice/tens"
)

// strange are tensors of each sort, whether they may be or not.
func strange() []api.Tensor {
	var all []api.Tensor
	for _, k := range kinds {
		for _, dims := range shapes() {
			all = append(all, filled(k.kind, dims))
		}
	}
	for _, c := range refusedTensors() {
		all = append(all, c.t)
	}
	s := seeds.Seed(1)
	for range 300 {
		all = append(all, anyTensor(&s))
	}
	return append(all, api.Tensor{}, api.Tensor{Type: -5, Dims: list(-1, 7), F: floats, I: wholes, B: []bool{true, false, true}})
}

// P5.2: Copy is the same, bit for bit, no numbers too.
func TestCopy(t *testing.T) {
	for _, x := range strange() {
		if c := tens.Copy(x); !alike(c, x) {
			t.Errorf("%s became %s", short(x), short(c))
		}
	}
}

// wantCanon is what a no number comes to: its bits without the sign are above those of what is infinite.
func wantCanon(f uint32) uint32 {
	if f&0x7FFFFFFF > 0x7F800000 {
		return 0x7FC00000
	}
	return f
}

// P5.2: Canon changes no numbers alone, also where the floats are not of the tensor's own type.
func TestCanon(t *testing.T) {
	for _, x := range strange() {
		want := cloned(x)
		for i, f := range want.F {
			want.F[i] = wantCanon(f)
		}
		c := tens.Canon(x)
		if !alike(c, want) {
			t.Errorf("%s became %s", short(x), short(c))
		}
		if again := tens.Canon(c); !alike(again, c) {
			t.Errorf("%s, and once more %s", short(c), short(again))
		}
	}
}

// P5.2: a tensor is the same as itself and its copy, whether it may be or not, and lists without elements are alike.
func TestSame(t *testing.T) {
	for _, x := range strange() {
		if !tens.Same(x, x) || !tens.Same(x, cloned(x)) || !tens.Same(tens.Copy(x), x) {
			t.Errorf("not the same as itself: %s", short(x))
		}
	}
	empty := api.Tensor{Dims: []int{}, F: []uint32{}, I: []int64{}, B: []bool{}}
	if !tens.Same(api.Tensor{}, empty) || !tens.Same(empty, api.Tensor{}) {
		t.Error("lists without elements differ")
	}
}

// P5.2: each tensor is the same as those alone that are told alike.
func TestSameAlone(t *testing.T) {
	few := append([]api.Tensor{{}}, refusedFew()...)
	for _, a := range few {
		for _, b := range few {
			if got, want := tens.Same(a, b), alike(a, b); got != want {
				t.Errorf("%s and %s: %v", short(a), short(b), got)
			}
		}
	}
}

// refusedFew are small tensors that differ by little.
func refusedFew() []api.Tensor {
	var few []api.Tensor
	for _, kind := range list(api.None, api.Float, api.Int, api.Bool, 2) {
		for _, dims := range [][]int{nil, {0}, {1}, {2}, {1, 2}, {2, 1}, {-1}} {
			few = append(few, api.Tensor{Type: kind, Dims: dims},
				api.Tensor{Type: kind, Dims: dims, F: []uint32{0}}, api.Tensor{Type: kind, Dims: dims, F: []uint32{0, 0}},
				api.Tensor{Type: kind, Dims: dims, I: []int64{0}}, api.Tensor{Type: kind, Dims: dims, I: []int64{0, 0}},
				api.Tensor{Type: kind, Dims: dims, B: []bool{false}}, api.Tensor{Type: kind, Dims: dims, B: []bool{false, false}})
		}
	}
	return few
}

// P5.2: one bit that differs, at any place, in any list, whether it counts or not, makes them differ.
func TestSameBitForBit(t *testing.T) {
	differ := func(a, b api.Tensor) {
		t.Helper()
		if tens.Same(a, b) || tens.Same(b, a) {
			t.Errorf("taken as the same: %s and %s", short(a), short(b))
		}
	}
	for _, x := range []api.Tensor{
		filled(api.Float, list(2, 11)), filled(api.Int, list(4, 4)), filled(api.Bool, list(9)),
		{Type: 3, Dims: list(-1, 5), F: floats, I: wholes, B: []bool{true, false}},
	} {
		other := func(change func(*api.Tensor)) {
			y := cloned(x)
			change(&y)
			differ(x, y)
		}
		other(func(y *api.Tensor) { y.Type++ })
		for i := range x.Dims {
			other(func(y *api.Tensor) { y.Dims[i]++ })
		}
		for i := range x.F {
			for bit := range 32 {
				other(func(y *api.Tensor) { y.F[i] ^= 1 << bit })
			}
		}
		for i := range x.I {
			for bit := range 64 {
				other(func(y *api.Tensor) { y.I[i] ^= 1 << bit })
			}
		}
		for i := range x.B {
			other(func(y *api.Tensor) { y.B[i] = !y.B[i] })
		}
		other(func(y *api.Tensor) { y.Dims = append(y.Dims, 1) })
		other(func(y *api.Tensor) { y.F = append(y.F, 0) })
		other(func(y *api.Tensor) { y.I = append(y.I, 0) })
		other(func(y *api.Tensor) { y.B = append(y.B, false) })
	}
	// As floats the noughts are alike and a no number differs from itself; as bits it is the other way about.
	differ(api.Tensor{Type: api.Float, F: []uint32{0}}, api.Tensor{Type: api.Float, F: []uint32{0x80000000}})
	no := slices.Repeat([]uint32{0x7FC00000}, 3)
	if !tens.Same(api.Tensor{Type: api.Float, Dims: list(3), F: no}, api.Tensor{Type: api.Float, Dims: list(3), F: slices.Clone(no)}) {
		t.Error("a no number is not the same as itself")
	}
}
