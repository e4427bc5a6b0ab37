package tens_test

import (
	"testing"

	"lattice/api"
	"lattice/seeds"
	"lattice/tens"
)

// taken are tensors that may be, of each type and shape and of any bits.
func taken() []api.Tensor {
	var all []api.Tensor
	for _, x := range strange() {
		if tens.Check(x) == api.OK {
			all = append(all, x)
		}
	}
	return all
}

// P5.6: FromBytes of Bytes is the tensor, bit for bit, and Bytes of that the bytes.
func TestBytesThereAndBack(t *testing.T) {
	for _, x := range taken() {
		b, err := tens.Bytes(x)
		if err != api.OK || len(b) != product(x.Dims)*tens.Width(x.Type) {
			t.Errorf("Bytes of %s: %d of them, %v", short(x), len(b), err)
		}
		back, err := tens.FromBytes(x.Type, x.Dims, b)
		if err != api.OK || !alike(back, x) || !tens.Same(back, x) || tens.Check(back) != api.OK {
			t.Errorf("%s came back as %s, %v", short(x), short(back), err)
		}
		wantRow(t, said("Bytes of ", short(back)), b, api.OK)(tens.Bytes(back))
	}
}

// inOrder are all places of a tensor of n elements.
func inOrder(n int) []int {
	at := make([]int, n)
	for i := range at {
		at[i] = i
	}
	return at
}

// P5.6: all places in order change nothing but the dims.
func TestPickInOrder(t *testing.T) {
	for _, x := range taken() {
		n := product(x.Dims)
		for _, dims := range [][]int{x.Dims, {n}, {1, n}, {n, 1, 1}} {
			want := cloned(x)
			want.Dims = dims
			wantTensor(t, said("Pick ", short(x)), want, api.OK)(tens.Pick(x, dims, inOrder(n)))
		}
	}
}

// P5.6: picking by an order, and then by the one that undoes it, leads back.
func TestPickThereAndBack(t *testing.T) {
	s := seeds.Seed(4)
	for _, x := range taken() {
		n := product(x.Dims)
		order, undo := inOrder(n), make([]int, n)
		for i := n - 1; i > 0; i-- {
			j := s.Below(i + 1)
			order[i], order[j] = order[j], order[i]
		}
		for i, a := range order {
			undo[a] = i
		}
		mixed, err := tens.Pick(x, list(n), order)
		if err != api.OK {
			t.Fatalf("Pick of %s: %v", short(x), err)
		}
		wantTensor(t, said("back to ", short(x)), x, api.OK)(tens.Pick(mixed, x.Dims, undo))
	}
}

// What New answers may be, and picking none of anything comes to the same.
func TestNewIsPickOfNone(t *testing.T) {
	for _, x := range taken() {
		zero, err := tens.New(x.Type, x.Dims)
		if err != api.OK || tens.Check(zero) != api.OK {
			t.Errorf("New of %d %v: %v, %v", x.Type, x.Dims, err, tens.Check(zero))
		}
		wantTensor(t, said("none of ", short(x)), zero, api.OK)(tens.Pick(x, x.Dims, times(product(x.Dims), -1)))
		wantTensor(t, said("bytes 0 of ", short(x)), zero, api.OK)(tens.FromBytes(x.Type, x.Dims, make([]byte, product(x.Dims)*tens.Width(x.Type))))
	}
}
