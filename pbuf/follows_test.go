package pbuf_test

import (
	"bytes"
	"testing"

	"lattice/api"
	"lattice/pbuf"
	"lattice/seeds"
)

// P6.5: Read of Write is the fields.
func TestReadOfWrite(t *testing.T) {
	s := seeds.Seed(8)
	try := func(l []pbuf.Field) {
		b, err := pbuf.Write(l)
		if err != api.OK {
			t.Fatalf("Write %v: %v", first(l), err)
		}
		wantFields(t, told("Read of Write ", l), l, api.OK)(pbuf.Read(b))
	}
	for range 10000 {
		try(anyFields(&s))
	}
	for _, wire := range wires {
		for _, num := range []int{1, 15, 16, mostNum} {
			for _, x := range marks() {
				switch {
				case wire == 2:
					try(fields(of(num, bytes.Repeat(row(128), int(x%5000))...)))
				case wire != 5 || x < 1<<32:
					try(fields(pbuf.Field{Num: num, Wire: wire, X: x}))
				}
			}
		}
	}
}

// P6.5: Write of Read is read as the same fields, and has no more bytes than were read: just as many, if these were the shortest.
func TestWriteOfRead(t *testing.T) {
	s := seeds.Seed(9)
	shorter := 0
	for range 10000 {
		b := longWritten(&s, anyFields(&s))
		if s.Below(4) == 0 {
			b = anyBytes(&s)
		}
		l, err := pbuf.Read(b)
		if err != api.OK {
			continue
		}
		again, err := pbuf.Write(l)
		if err != api.OK || len(again) > len(b) {
			t.Errorf("Read %v, and Write of it: %d bytes, %v", first(b), len(again), err)
		}
		if len(again) < len(b) {
			shorter++
		}
		wantFields(t, told("Read of Write of Read ", b), l, api.OK)(pbuf.Read(again))
		wantList(t, told("Write of Read of the shortest ", again), again, api.OK)(pbuf.Write(l))
	}
	if shorter < 1000 {
		t.Errorf("only %d became shorter", shorter)
	}
}

// P6.5: two messages, one behind the other, have the fields of both; what is no message ahead of one, or behind it, leaves none.
func TestTwoMessages(t *testing.T) {
	s := seeds.Seed(10)
	for range 10000 {
		a, b := anyFields(&s), anyFields(&s)
		two := together(longWritten(&s, a), longWritten(&s, b))
		wantFields(t, told("Read of both ", two), append(cloned(a), b...), api.OK)(pbuf.Read(two))
		one, err := pbuf.Write(a)
		other, errToo := pbuf.Write(b)
		if err != api.OK || errToo != api.OK {
			t.Fatal(err, errToo)
		}
		wantList(t, told("Write of both ", a, b), together(one, other), api.OK)(pbuf.Write(append(cloned(a), b...)))
		bad := together(two, row(0, 0))
		wantFields(t, told("Read ", bad), nil, api.ErrMalformed)(pbuf.Read(bad))
		bad = together(row(0, 0), two)
		wantFields(t, told("Read ", bad), nil, api.ErrMalformed)(pbuf.Read(bad))
	}
	half := bytes.Repeat(row(8, 1), api.MaxBytes/4)
	l, err := pbuf.Read(together(half, half))
	if err != api.OK || len(l) != api.MaxBytes/2 {
		t.Errorf("two halves: %d fields, %v", len(l), err)
	}
	wantFields(t, "two halves and a field", nil, api.ErrLimit)(pbuf.Read(together(half, half, row(8, 1))))
}
