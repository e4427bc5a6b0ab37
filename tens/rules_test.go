package tens_test

import (
	"slices"
	"testing"

	"lattice/api"
	"lattice/seeds"
	"lattice/tens"
)

// zeroBeside: the error is OK or one that the call may tell, and the rest is zero beside it.
func zeroBeside(t *testing.T, call string, zero bool, err api.Errno, may ...api.Errno) {
	t.Helper()
	if err != api.OK && (!zero || !slices.Contains(may, err)) {
		t.Fatalf("%s: %v, zero beside it: %v", call, err, zero)
	}
}

// zeroTensor: is nothing in it?
func zeroTensor(x api.Tensor) bool {
	return x.Type == 0 && len(x.Dims)+len(x.F)+len(x.I)+len(x.B) == 0
}

// The document's R1, R3 and R4: whatever is handed in, each call ends without a panic, changes nothing of it, and answers zero values beside an error.
func TestAnyArguments(t *testing.T) {
	s := seeds.Seed(5)
	for range 20000 {
		x, y, dims, at, kind := anyTensor(&s), anyTensor(&s), anyList(&s), anyList(&s), anyKind(&s)
		if s.Below(2) == 0 && len(x.Dims) < 9 {
			at = anyPlaces(&s, min(len(x.F)+len(x.I)+len(x.B), 50), 5)
		}
		b := slices.Repeat([]byte{byte(s.Below(3))}, s.Below(40))
		oldX, oldY, oldDims, oldAt, oldB := cloned(x), cloned(y), slices.Clone(dims), slices.Clone(at), slices.Clone(b)

		zeroBeside(t, "Check", true, tens.Check(x), api.ErrArg, api.ErrShape, api.ErrSize, api.ErrType)
		made, err := tens.New(kind, dims)
		zeroBeside(t, "New", zeroTensor(made), err, api.ErrArg, api.ErrSize, api.ErrType)
		tens.Copy(x)
		tens.Canon(x)
		if tens.Same(x, y) != alike(x, y) {
			t.Fatalf("Same of %s and %s", short(x), short(y))
		}
		picked, err := tens.Pick(x, dims, at)
		zeroBeside(t, "Pick", zeroTensor(picked), err, api.ErrArg, api.ErrPlace, api.ErrShape, api.ErrSize, api.ErrType)
		ints, err := tens.Ints(x)
		zeroBeside(t, "Ints", len(ints) == 0, err, api.ErrArg, api.ErrShape, api.ErrSize, api.ErrType)
		tens.Width(kind)
		bytes, err := tens.Bytes(x)
		zeroBeside(t, "Bytes", len(bytes) == 0, err, api.ErrArg, api.ErrShape, api.ErrSize, api.ErrType)
		from, err := tens.FromBytes(kind, dims, b)
		zeroBeside(t, "FromBytes", zeroTensor(from), err, api.ErrArg, api.ErrShape, api.ErrSize, api.ErrType)

		if !alike(x, oldX) || !alike(y, oldY) || !slices.Equal(dims, oldDims) || !slices.Equal(at, oldAt) || !slices.Equal(b, oldB) {
			t.Fatalf("what was handed in changed: %s, %s, %v, %v, %v", short(x), short(y), dims, at, b)
		}
	}
}

// spoil writes over all memory of a list, its room too.
func spoil[E any](row []E, with E) {
	row = row[:cap(row)]
	for i := range row {
		row[i] = with
	}
}

func spoilTensor(x api.Tensor) {
	spoil(x.Dims, -7)
	spoil(x.F, 0xDEADBEEF)
	spoil(x.I, -77)
	for i := range x.B[:cap(x.B)] {
		x.B[:cap(x.B)][i] = !x.B[:cap(x.B)][i]
	}
}

// roomy is the tensor in lists that have room behind their elements; those without elements have it too.
func roomy(x api.Tensor) api.Tensor {
	return api.Tensor{
		Type: x.Type,
		Dims: append(make([]int, 0, len(x.Dims)+9), x.Dims...),
		F:    append(make([]uint32, 0, len(x.F)+9), x.F...),
		I:    append(make([]int64, 0, len(x.I)+9), x.I...),
		B:    append(make([]bool, 0, len(x.B)+9), x.B...),
	}
}

// all is a tensor with the room behind its elements.
func all(x api.Tensor) api.Tensor {
	return api.Tensor{Type: x.Type, Dims: x.Dims[:cap(x.Dims)], F: x.F[:cap(x.F)], I: x.I[:cap(x.I)], B: x.B[:cap(x.B)]}
}

// R3: what is answered shares no memory with what was handed in, nor with another answer.
func TestNewMemory(t *testing.T) {
	for _, x := range strange() {
		if len(x.Dims) > 9 {
			continue
		}
		x = roomy(x)
		dims := append(make([]int, 0, 20), x.Dims...)
		at := append(make([]int, 0, 5000), inOrder(len(x.F)+len(x.I)+len(x.B))...)
		b := wantBytes(x)
		oldX, oldDims, oldAt, oldB := cloned(all(x)), slices.Clone(dims[:cap(dims)]), slices.Clone(at[:cap(at)]), slices.Clone(b)
		tensors := func() []api.Tensor {
			made, _ := tens.New(x.Type, dims)
			picked, _ := tens.Pick(x, dims, at)
			from, _ := tens.FromBytes(x.Type, dims, b)
			return []api.Tensor{made, picked, from, tens.Copy(x), tens.Canon(x)}
		}
		lists := func() ([]int, []byte) {
			ints, _ := tens.Ints(x)
			bytes, _ := tens.Bytes(x)
			return ints, bytes
		}
		once, want := tensors(), tensors()
		ints, bytes := lists()
		wantInts, wantRowOfBytes := lists()
		for _, y := range once {
			spoilTensor(y)
		}
		spoil(ints, -7)
		spoil(bytes, 0xEE)
		if !alike(all(x), oldX) || !slices.Equal(dims[:cap(dims)], oldDims) || !slices.Equal(at[:cap(at)], oldAt) || !slices.Equal(b, oldB) {
			t.Fatalf("what was handed in changed: %s", short(x))
		}
		for i, y := range tensors() {
			if !alike(y, want[i]) {
				t.Fatalf("of %s: answer %d is %s, and was %s", short(x), i, short(y), short(want[i]))
			}
		}
		againInts, againBytes := lists()
		if !slices.Equal(againInts, wantInts) || !slices.Equal(againBytes, wantRowOfBytes) {
			t.Fatalf("of %s: the lists changed", short(x))
		}
	}
}

// R3: what was handed in is not kept: an answer stays as it was, whatever becomes of the arguments.
func TestNothingKept(t *testing.T) {
	for _, x := range taken() {
		x = roomy(x)
		dims, at, b := slices.Clone(x.Dims), inOrder(product(x.Dims)), wantBytes(x)
		picked, _ := tens.Pick(x, dims, at)
		from, _ := tens.FromBytes(x.Type, dims, b)
		made, _ := tens.New(x.Type, dims)
		answers := []api.Tensor{picked, from, made, tens.Copy(x), tens.Canon(x)}
		var want []api.Tensor
		for _, y := range answers {
			want = append(want, cloned(y))
		}
		spoilTensor(x)
		spoil(dims, -7)
		spoil(at, -7)
		spoil(b, 0xEE)
		for i, y := range answers {
			if !alike(y, want[i]) {
				t.Fatalf("answer %d became %s", i, short(y))
			}
		}
	}
}
