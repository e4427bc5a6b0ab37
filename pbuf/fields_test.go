package pbuf_test

import (
	"bytes"
	"encoding/binary"
	"math"
	"slices"
	"testing"

	"lattice/api"
	"lattice/pbuf"
	"lattice/seeds"
)

// mixed is fields of several Nums and all Wires, some of which may not be.
func mixed() []pbuf.Field {
	return fields(
		pbuf.Field{Num: 1, X: 5}, of(2, 1, 2), pbuf.Field{Num: 3, Wire: 5, X: 9}, pbuf.Field{Num: 1, X: 6}, of(2), pbuf.Field{Num: 4, Wire: 1, X: 1 << 50}, of(2, 3),
		pbuf.Field{Num: 0, Wire: 3, X: 1}, pbuf.Field{Num: -1, Wire: -7, Data: row(4)}, pbuf.Field{Num: mostNum + 1, X: 4}, pbuf.Field{Num: math.MaxInt, Wire: 2, X: 8, Data: row(9)}, pbuf.Field{Num: math.MinInt}, pbuf.Field{Num: 1, X: 1<<64 - 1},
	)
}

// wantAll is P6.4 by leaving out the others.
func wantAll(l []pbuf.Field, num int) []pbuf.Field {
	return slices.DeleteFunc(cloned(l), func(f pbuf.Field) bool { return f.Num != num })
}

// P6.4: the fields of one Num, in order, whether it may be one or not.
func TestAll(t *testing.T) {
	l := mixed()
	for num, want := range map[int][]pbuf.Field{
		1: {l[0], l[3], l[12]}, 2: {l[1], l[4], l[6]}, 3: {l[2]}, 4: {l[5]}, 0: {l[7]}, -1: {l[8]}, mostNum + 1: {l[9]}, math.MaxInt: {l[10]}, math.MinInt: {l[11]},
		5: nil, mostNum: nil, 1 + 1<<32: nil, -2: nil,
	} {
		wantFields(t, told("All ", num), want, api.OK)(pbuf.All(l, num), api.OK)
	}
	wantFields(t, "All of none", nil, api.OK)(pbuf.All(nil, 1), api.OK)
	s := seeds.Seed(6)
	for range 5000 {
		l := anyFields(&s)
		for num := range 6 {
			wantFields(t, told("All ", l, num), wantAll(l, num), api.OK)(pbuf.All(l, num), api.OK)
		}
	}
}

// P6.4: the last one of a Num; a zero field, if there is none.
func TestLast(t *testing.T) {
	l := mixed()
	for _, c := range []struct{ num, wire, at int }{{1, 0, 12}, {2, 2, 6}, {3, 5, 2}, {4, 1, 5}, {0, 3, 7}, {-1, -7, 8}, {mostNum + 1, 0, 9}, {math.MaxInt, 2, 10}, {math.MinInt, 0, 11}} {
		wantLast(t, told("Last ", c), l[c.at], true, api.OK)(pbuf.Last(l, c.num, c.wire))
		for _, wire := range append(slices.Clone(wires), noWires...) {
			if wire != c.wire {
				wantLast(t, told("Last ", c.num, " ", wire), pbuf.Field{}, false, api.ErrMalformed)(pbuf.Last(l, c.num, wire))
			}
		}
	}
	for _, num := range []int{5, -2, mostNum, 1 + 1<<32} {
		for _, wire := range append(slices.Clone(wires), noWires...) {
			wantLast(t, told("Last ", num, " ", wire), pbuf.Field{}, false, api.OK)(pbuf.Last(l, num, wire))
			wantLast(t, told("Last of none ", num, " ", wire), pbuf.Field{}, false, api.OK)(pbuf.Last(nil, num, wire))
		}
	}
}

// P6.4: the Data of all, one behind the other; none and one without bytes are told apart.
func TestJoined(t *testing.T) {
	for _, c := range []struct {
		l    []pbuf.Field
		want []byte
		is   bool
	}{
		{nil, nil, false}, {fields(), nil, false}, {fields(of(8, 1)), nil, false}, {fields(pbuf.Field{Num: 8, X: 7}), nil, false},
		{fields(of(7)), nil, true}, {fields(of(7), of(7)), nil, true}, {fields(of(7, 1)), row(1), true},
		{fields(of(7, 3, 2), of(7), of(8, 9), of(7, 1), pbuf.Field{Num: 8}, of(7, 4, 4)), row(3, 2, 1, 4, 4), true},
	} {
		wantJoined(t, told("Joined ", c.l), c.want, c.is, api.OK)(pbuf.Joined(c.l, 7))
	}
	much := bytes.Repeat(row(1, 2, 3), 1<<20)
	wantJoined(t, "Joined of much", together(much, much, row(5)), true, api.OK)(pbuf.Joined(fields(of(7, much...), of(7, much...), of(7, 5)), 7))
}

// P6.4: numbers one by one and packed, in order, in each form.
func TestInts(t *testing.T) {
	one := func(x uint64) pbuf.Field { return pbuf.Field{Num: 7, X: x} }
	for _, c := range []struct {
		l    []pbuf.Field
		want []uint64
	}{
		{nil, nil}, {fields(), nil}, {fields(pbuf.Field{Num: 8, X: 7}, of(8, 128)), nil},
		{fields(of(7)), nil}, {fields(one(0)), []uint64{0}}, {fields(one(1<<64 - 1)), []uint64{1<<64 - 1}},
		{fields(of(7, 0)), []uint64{0}}, {fields(of(7, 128, 0, 128, 128, 0, 1)), []uint64{0, 0, 1}},
		{fields(of(7, 1, 172, 2), one(9), of(7), of(8, 255), one(8), of(7, 127, 128, 1)), []uint64{1, 300, 9, 8, 127, 128}},
		{fields(of(7, together(longer(1<<64-1, 10), longer(1, 10), row(2))...)), []uint64{1<<64 - 1, 1, 2}},
	} {
		wantList(t, told("Ints ", c.l), c.want, api.OK)(pbuf.Ints(c.l, 7))
	}
	var packed []byte
	for _, x := range marks() {
		packed = binary.AppendUvarint(packed, x)
		wantList(t, told("Ints of one ", x), []uint64{x}, api.OK)(pbuf.Ints(fields(one(x)), 7))
	}
	wantList(t, "Ints packed", marks(), api.OK)(pbuf.Ints(fields(of(7, packed...)), 7))
}

// P6.4: Data that is not made up of varints, wherever it stands.
func TestIntsMalformed(t *testing.T) {
	for _, bad := range [][]byte{
		{128}, {255}, {1, 128}, {172, 2, 172}, bytes.Repeat(row(128), 9), bytes.Repeat(row(255), 10), bytes.Repeat(row(128), 11),
		append(bytes.Repeat(row(128), 9), 2), append(bytes.Repeat(row(128), 10), 0), together(row(5), bytes.Repeat(row(255), 9), row(2, 0)),
	} {
		for _, l := range [][]pbuf.Field{{of(7, bad...)}, {{Num: 7, X: 1}, of(7, bad...)}, {of(7, bad...), {Num: 7, X: 1}}, {of(7, bad...), of(7, 1)}, {of(7, 1), of(7, bad...), of(7, 0)}} {
			wantList(t, told("Ints ", l), []uint64(nil), api.ErrMalformed)(pbuf.Ints(l, 7))
			wantList(t, told("Ints of another ", l), []uint64(nil), api.OK)(pbuf.Ints(l, 8))
		}
	}
	// A number does not go on from one field to the next.
	wantList(t, "Ints split", []uint64(nil), api.ErrMalformed)(pbuf.Ints(fields(of(7, 172), of(7, 2)), 7))
}

// P6.4: fours of bytes, one by one and packed, in order.
func TestFixed(t *testing.T) {
	one := func(x uint64) pbuf.Field { return pbuf.Field{Num: 7, Wire: 5, X: x} }
	for _, c := range []struct {
		l    []pbuf.Field
		want []uint32
	}{
		{nil, nil}, {fields(), nil}, {fields(pbuf.Field{Num: 8, Wire: 5, X: 7}, of(8, 128)), nil},
		{fields(of(7)), nil}, {fields(one(0)), []uint32{0}}, {fields(one(1<<32 - 1)), []uint32{1<<32 - 1}}, {fields(one(0x01020304)), []uint32{0x01020304}},
		{fields(of(7, 4, 3, 2, 1)), []uint32{0x01020304}}, {fields(of(7, 0, 0, 128, 63, 255, 255, 255, 255)), []uint32{0x3F800000, 1<<32 - 1}},
		{fields(of(7, 1, 0, 0, 0), one(9), of(7), of(8, 255), one(8), of(7, 2, 0, 0, 0, 0, 0, 0, 3)), []uint32{1, 9, 8, 2, 3 << 24}},
	} {
		wantList(t, told("Fixed ", c.l), c.want, api.OK)(pbuf.Fixed(c.l, 7))
	}
	// Of Data whose bytes are no multiple of 4 there is no answer, though all of them together be one.
	for size := range 40 {
		data := bytes.Repeat(row(3), size)
		for _, l := range [][]pbuf.Field{{of(7, data...)}, {one(1), of(7, data...)}, {of(7, data...), one(1)}, {of(7, 1, 2, 3, 4), of(7, data...), of(7, data...), of(7, data...), of(7, data...)}} {
			want, err := wantFixed(l, 7)
			if (err == api.OK) != (size%4 == 0) {
				t.Fatal(size, err)
			}
			wantList(t, told("Fixed ", l), want, err)(pbuf.Fixed(l, 7))
			wantList(t, told("Fixed of another ", l), []uint32(nil), api.OK)(pbuf.Fixed(l, 8))
		}
	}
}

// wantFixed is P6.4 by the library's own way to read four bytes.
func wantFixed(l []pbuf.Field, num int) ([]uint32, api.Errno) {
	var list []uint32
	for _, f := range wantAll(l, num) {
		switch {
		case f.Wire == 5:
			list = append(list, uint32(f.X))
		case f.Wire == 2 && len(f.Data)%4 == 0:
			for four := range slices.Chunk(f.Data, 4) {
				list = append(list, binary.LittleEndian.Uint32(four))
			}
		default:
			return nil, api.ErrMalformed
		}
	}
	return list, api.OK
}

// wantInts is P6.4 by the library's own way to read a varint.
func wantInts(l []pbuf.Field, num int) ([]uint64, api.Errno) {
	var list []uint64
	for _, f := range wantAll(l, num) {
		switch f.Wire {
		case 0:
			list = append(list, f.X)
		case 2:
			for b := f.Data; len(b) > 0; {
				x, n := binary.Uvarint(b)
				if n <= 0 {
					return nil, api.ErrMalformed
				}
				list, b = append(list, x), b[n:]
			}
		default:
			return nil, api.ErrMalformed
		}
	}
	return list, api.OK
}

// P6.4: one Wire that is not said, ahead of the others or behind them, refuses them all; of another Num it does not.
func TestWireNotSaid(t *testing.T) {
	for _, wire := range append(slices.Clone(wires), noWires...) {
		for _, c := range [][]pbuf.Field{
			{{Num: 7, Wire: wire}}, {of(7, 1, 0, 0, 0), {Num: 7, Wire: wire}}, {{Num: 7, Wire: wire}, of(7, 1, 0, 0, 0)}, {of(7), {Num: 7, Wire: wire}, of(7)},
			{{Num: 7, X: 4}, {Num: 7, Wire: wire}}, {{Num: 7, Wire: wire}, {Num: 7, X: 4}}, {{Num: 7, Wire: 5, X: 4}, {Num: 7, Wire: wire}}, {{Num: 7, Wire: wire}, {Num: 7, Wire: 5, X: 4}},
			{{Num: 7, Wire: 1, X: 4}, {Num: 7, Wire: wire}}, {{Num: 7, Wire: wire}, {Num: 7, Wire: 1, X: 4}},
		} {
			asked(t, c, 7)
			l := append(slices.Clone(c), pbuf.Field{Num: 8, Wire: wire}, of(8, 2, 0, 0, 0))
			asked(t, l, 7)
			asked(t, l, 8)
			asked(t, l, 9)
		}
	}
}

// asked holds the four calls of one Num against P6.4.
func asked(t *testing.T, l []pbuf.Field, num int) {
	t.Helper()
	all := wantAll(l, num)
	only := func(wire int) api.Errno {
		for _, f := range all {
			if f.Wire != wire {
				return api.ErrMalformed
			}
		}
		return api.OK
	}
	for _, wire := range append(slices.Clone(wires), noWires...) {
		last, err := pbuf.Field{}, only(wire)
		if err == api.OK && len(all) > 0 {
			last = all[len(all)-1]
		}
		wantLast(t, told("Last ", l, num, " ", wire), last, err == api.OK && len(all) > 0, err)(pbuf.Last(l, num, wire))
	}
	data, err := []byte(nil), only(2)
	for _, f := range all {
		if err == api.OK {
			data = append(data, f.Data...)
		}
	}
	wantJoined(t, told("Joined ", l, num), data, err == api.OK && len(all) > 0, err)(pbuf.Joined(l, num))
	ints, err := wantInts(l, num)
	wantList(t, told("Ints ", l, num), ints, err)(pbuf.Ints(l, num))
	fixed, err := wantFixed(l, num)
	wantList(t, told("Fixed ", l, num), fixed, err)(pbuf.Fixed(l, num))
}

// P6.4: of a field that may not be, too, that counts which its Wire names: X of one that is no row of bytes, Data of one that is.
func TestWireTellsWhatCounts(t *testing.T) {
	for _, data := range [][]byte{row(1), row(128), row(1, 2, 3, 4), row(255, 255, 255, 255)} {
		l := fields(
			pbuf.Field{Num: 7, Wire: 0, X: 5, Data: data}, pbuf.Field{Num: 7, Wire: 2, X: 6, Data: row(9, 0, 0, 0)},
			pbuf.Field{Num: 8, Wire: 5, X: 5, Data: data}, pbuf.Field{Num: 8, Wire: 2, X: 6, Data: row(9, 0, 0, 0)},
		)
		wantList(t, told("Ints ", l), []uint64{5, 9, 0, 0, 0}, api.OK)(pbuf.Ints(l, 7))
		wantList(t, told("Fixed ", l), []uint32{5, 9}, api.OK)(pbuf.Fixed(l, 8))
		wantJoined(t, told("Joined ", l[1:]), row(9, 0, 0, 0), true, api.OK)(pbuf.Joined(l[1:], 7))
		wantLast(t, told("Last ", l[:1]), l[0], true, api.OK)(pbuf.Last(l[:1], 7, 0))
		wantFields(t, told("All ", l), l[2:], api.OK)(pbuf.All(l, 8), api.OK)
	}
}

// P6.4: any fields.
func TestAskedAny(t *testing.T) {
	s := seeds.Seed(7)
	for range 5000 {
		l := anyFields(&s)
		for i := range l {
			if s.Below(2) == 0 {
				l[i].Num = 1
			}
			if l[i].Wire == 2 && s.Below(2) == 0 {
				l[i].Data = l[i].Data[:len(l[i].Data)&^3]
			}
		}
		for num := range 5 {
			asked(t, l, num)
		}
	}
}
