package tens_test

import (
	"testing"

	"lattice/api"
	"lattice/tens"
)

// whole is a list of whole numbers.
func whole(numbers ...int64) api.Tensor {
	return api.Tensor{Type: api.Int, Dims: []int{len(numbers)}, I: numbers}
}

// The chapter's examples, first row.
func TestExamplesOfPick(t *testing.T) {
	x := whole(5, 7)
	wantTensor(t, "Pick(t, (3), (1 -1 0))", whole(7, 0, 5), api.OK)(tens.Pick(x, list(3), list(1, -1, 0)))
	wantTensor(t, "Pick(t, (1), (2))", api.Tensor{}, api.ErrPlace)(tens.Pick(x, list(1), list(2)))
	wantTensor(t, "Pick(t, (2), (0))", api.Tensor{}, api.ErrShape)(tens.Pick(x, list(2), list(0)))
	wantRow(t, "Ints(t)", list(5, 7), api.OK)(tens.Ints(x))
	wantRow(t, "Bytes(t)", []byte{5, 0, 0, 0, 0, 0, 0, 0, 7, 0, 0, 0, 0, 0, 0, 0}, api.OK)(tens.Bytes(x))
}

// The chapter's examples, second row.
func TestExamplesOfCheck(t *testing.T) {
	if err := tens.Check(api.Tensor{Type: api.Float, Dims: list(2), F: []uint32{1}}); err != api.ErrShape {
		t.Error("a float too few:", err)
	}
	if err := tens.Check(api.Tensor{Type: 2}); err != api.ErrType {
		t.Error("type 2:", err)
	}
	wantTensor(t, "FromBytes(Bool, (2), (1 2))", api.Tensor{}, api.ErrArg)(tens.FromBytes(api.Bool, list(2), []byte{1, 2}))
	if c := tens.Canon(api.Tensor{F: []uint32{0x7F800001}}); len(c.F) != 1 || c.F[0] != 0x7FC00000 {
		t.Errorf("Canon of 7F800001: %08X", c.F)
	}
}
