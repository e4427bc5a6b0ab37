package pbuf_test

import (
	"bytes"
	"slices"
	"testing"

	"lattice/api"
	"lattice/pbuf"
	"lattice/seeds"
)

// P6.3: messages told here byte by byte.
func TestWriteWrittenOut(t *testing.T) {
	for _, c := range []struct {
		l    []pbuf.Field
		want []byte
	}{
		{nil, nil}, {fields(), nil},
		{fields(pbuf.Field{Num: 1}), row(8, 0)},
		{fields(pbuf.Field{Num: 1, Data: row()}), row(8, 0)},
		{fields(pbuf.Field{Num: 15, X: 127}), row(120, 127)},
		{fields(pbuf.Field{Num: 16, X: 128}), row(128, 1, 128, 1)},
		{fields(pbuf.Field{Num: 1, X: 150}, of(2, 65, 66)), row(8, 150, 1, 18, 2, 65, 66)},
		{fields(pbuf.Field{Num: 1, Wire: 1, X: 0x0102030405060708}), row(9, 8, 7, 6, 5, 4, 3, 2, 1)},
		{fields(pbuf.Field{Num: 1, Wire: 1}), row(9, 0, 0, 0, 0, 0, 0, 0, 0)},
		{fields(pbuf.Field{Num: 1, Wire: 5, X: 0x01020304}), row(13, 4, 3, 2, 1)},
		{fields(pbuf.Field{Num: 1, Wire: 5, X: 1<<32 - 1}), row(13, 255, 255, 255, 255)},
		{fields(of(1), of(1)), row(10, 0, 10, 0)},
		{fields(pbuf.Field{Num: 1, X: 1<<64 - 1}), row(8, 255, 255, 255, 255, 255, 255, 255, 255, 255, 1)},
		{fields(pbuf.Field{Num: mostNum, X: 7}), row(248, 255, 255, 255, 15, 7)},
		{fields(pbuf.Field{Num: mostNum, Wire: 5, X: 7}), row(253, 255, 255, 255, 15, 7, 0, 0, 0)},
		{fields(of(mostNum, 1)), row(250, 255, 255, 255, 15, 1, 1)},
		{fields(of(3, 1), pbuf.Field{Num: 2, X: 5}, of(3, 2)), row(26, 1, 1, 16, 5, 26, 1, 2)},
	} {
		wantList(t, told("Write ", c.l), c.want, api.OK)(pbuf.Write(c.l))
	}
}

// P6.3: each Wire with Nums and numbers of each length.
func TestWriteEach(t *testing.T) {
	for _, wire := range wires {
		for _, num := range []int{1, 2, 15, 16, 2047, 2048, 1<<18 - 1, 1 << 18, 1<<25 - 1, 1 << 25, mostNum - 1, mostNum} {
			for _, x := range marks() {
				f := pbuf.Field{Num: num, Wire: wire, X: x}
				switch {
				case wire == 2:
					f.X, f.Data = 0, bytes.Repeat(row(byte(x)), int(x%20000))
				case wire == 5 && x >= 1<<32:
					wantList(t, told("Write ", f), []byte(nil), api.ErrArg)(pbuf.Write(fields(f)))
					continue
				}
				wantList(t, told("Write ", f), wantWrite(f), api.OK)(pbuf.Write(fields(f)))
			}
		}
	}
}

// wrong are fields that may not be.
func wrong() []pbuf.Field {
	var all []pbuf.Field
	for _, num := range noNums {
		for _, wire := range wires {
			all = append(all, pbuf.Field{Num: num, Wire: wire})
		}
	}
	for _, wire := range noWires {
		all = append(all, pbuf.Field{Num: 1, Wire: wire}, pbuf.Field{Num: mostNum, Wire: wire, X: 1}, pbuf.Field{Num: 1, Wire: wire, Data: row(1)})
	}
	for _, x := range []uint64{1 << 32, 1<<32 + 1, 1 << 33, 1 << 63, 1<<64 - 1} {
		all = append(all, pbuf.Field{Num: 1, Wire: 5, X: x})
	}
	for _, x := range []uint64{1, 2, 1 << 32, 1<<64 - 1} {
		all = append(all, pbuf.Field{Num: 1, Wire: 2, X: x}, pbuf.Field{Num: 1, Wire: 2, X: x, Data: row(1)})
	}
	for _, wire := range []int{0, 1, 5} {
		all = append(all, pbuf.Field{Num: 1, Wire: wire, Data: row(0)}, pbuf.Field{Num: 1, Wire: wire, X: 1, Data: row(1, 2)})
	}
	return all
}

// P6.3: one field that may not be, wherever it stands, refuses them all.
func TestWriteRefuses(t *testing.T) {
	good := fields(pbuf.Field{Num: 1, X: 1}, of(2, 1, 2), pbuf.Field{Num: 3, Wire: 5, X: 1}, pbuf.Field{Num: 4, Wire: 1, X: 1 << 40})
	for _, f := range wrong() {
		wantList(t, told("Write ", f), []byte(nil), api.ErrArg)(pbuf.Write(fields(f)))
		for at := range len(good) + 1 {
			l := slices.Insert(slices.Clone(good), at, f)
			wantList(t, told("Write ", l), []byte(nil), api.ErrArg)(pbuf.Write(l))
		}
	}
}

// P6.3: a message at MaxBytes is written, one byte more is not, whatever the last field is.
func TestWriteLimit(t *testing.T) {
	for _, last := range []pbuf.Field{
		{Num: 1, X: 1}, {Num: 1, X: 1<<64 - 1}, {Num: mostNum, X: 300}, {Num: 1, Wire: 1, X: 1}, {Num: 1, Wire: 5, X: 1}, {Num: 2000, Wire: 1}, {Num: 2000, Wire: 5}, of(1), of(1, 1), of(mostNum, make([]byte, 300)...),
	} {
		end := wantWrite(last)
		// Five bytes are the first field's tag and length.
		data := bytes.Repeat(row(65), api.MaxBytes-5-len(end))
		want := together(wantWrite(of(1, data...)), end)
		if len(want) != api.MaxBytes {
			t.Fatal(len(want))
		}
		wantList(t, told("at MaxBytes ", last.Num, last.Wire), want, api.OK)(pbuf.Write(fields(of(1, data...), last)))
		wantList(t, told("above it ", last.Num, last.Wire), []byte(nil), api.ErrLimit)(pbuf.Write(fields(of(1, append(data, 65)...), last)))
		wantList(t, told("above it ", last.Num, last.Wire), []byte(nil), api.ErrLimit)(pbuf.Write(fields(last, of(1, append(data, 65)...))))
	}
	data := make([]byte, api.MaxBytes-5)
	wantList(t, "one field at MaxBytes", wantWrite(of(1, data...)), api.OK)(pbuf.Write(fields(of(1, data...))))
	wantList(t, "one field above it", []byte(nil), api.ErrLimit)(pbuf.Write(fields(of(1, append(data, 0)...))))
	wantList(t, "its tag a byte longer", []byte(nil), api.ErrLimit)(pbuf.Write(fields(of(16, data...))))
	wantList(t, "its Data alone above it", []byte(nil), api.ErrLimit)(pbuf.Write(fields(of(1, make([]byte, api.MaxBytes+1)...))))
	many := slices.Repeat(fields(pbuf.Field{Num: 1, X: 1}), api.MaxBytes/2)
	wantList(t, "many fields at MaxBytes", bytes.Repeat(row(8, 1), api.MaxBytes/2), api.OK)(pbuf.Write(many))
	many[0].X = 128
	wantList(t, "many fields above it", []byte(nil), api.ErrLimit)(pbuf.Write(many))
}

// P6.3: a field that may not be comes ahead of too many bytes, on either side of them.
func TestWriteFirstError(t *testing.T) {
	much := of(1, make([]byte, api.MaxBytes)...)
	for _, f := range wrong() {
		wantList(t, told("Write, much ahead of ", f), []byte(nil), api.ErrArg)(pbuf.Write(fields(much, f)))
		wantList(t, told("Write, much behind ", f), []byte(nil), api.ErrArg)(pbuf.Write(fields(f, much)))
	}
	much.X = 1
	wantList(t, "Write of what is both", []byte(nil), api.ErrArg)(pbuf.Write(fields(much)))
}

// P6.3: any fields that may be.
func TestWriteAny(t *testing.T) {
	s := seeds.Seed(5)
	for range 10000 {
		l := anyFields(&s)
		wantList(t, told("Write ", l), wantWrite(l...), api.OK)(pbuf.Write(l))
	}
}
