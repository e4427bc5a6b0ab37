package pbuf_test

import (
	"bytes"
	"testing"

	"lattice/api"
	"lattice/pbuf"
)

// The chapter's first example.
func TestExampleVarints(t *testing.T) {
	if got := pbuf.Varint(300); !bytes.Equal(got, row(172, 2)) {
		t.Errorf("Varint(300): %v", got)
	}
	nines := bytes.Repeat(row(255), 9)
	for _, c := range []struct {
		b      []byte
		at     int
		x      uint64
		behind int
		err    api.Errno
	}{
		{row(172, 2), 0, 300, 2, api.OK},
		{row(172, 2), 2, 0, 0, api.ErrMalformed},
		{row(172, 2), 3, 0, 0, api.ErrPlace},
		{row(128, 0), 0, 0, 2, api.OK},
		{together(nines, row(255)), 0, 0, 0, api.ErrMalformed},
		{together(nines, row(255, 0)), 0, 0, 0, api.ErrMalformed},
		{together(nines, row(255, 255, 255)), 0, 0, 0, api.ErrMalformed},
		{together(nines, row(1)), 0, 1<<64 - 1, 10, api.OK},
	} {
		wantPlace(t, told("ReadVarint ", c.b, c.at), c.x, c.behind, c.err)(pbuf.ReadVarint(c.b, c.at))
	}
}

// The chapter's second example.
func TestExampleMessages(t *testing.T) {
	want := fields(pbuf.Field{Num: 1, Wire: 0, X: 150}, pbuf.Field{Num: 2, Wire: 2, Data: []byte("AB")})
	wantFields(t, "the example", want, api.OK)(pbuf.Read(row(8, 150, 1, 18, 2, 65, 66)))
	for _, b := range [][]byte{row(8), row(0, 0), row(11), row(18, 3, 65)} {
		wantFields(t, told("Read ", b), nil, api.ErrMalformed)(pbuf.Read(b))
	}
}

// The chapter's third example.
func TestExampleFields(t *testing.T) {
	l := fields(pbuf.Field{Num: 4, X: 7}, of(4, 1, 172, 2), pbuf.Field{Num: 5, X: 9})
	wantList(t, "Ints for 4", []uint64{7, 1, 300}, api.OK)(pbuf.Ints(l, 4))
	wantLast(t, "Last for 5, 0", l[2], true, api.OK)(pbuf.Last(l, 5, 0))
	wantLast(t, "Last for 4, 0", pbuf.Field{}, false, api.ErrMalformed)(pbuf.Last(l, 4, 0))
	wantJoined(t, "Joined for 6", nil, false, api.OK)(pbuf.Joined(l, 6))
}
