package pbuf_test

import (
	"bytes"
	"math"
	"slices"
	"testing"

	"lattice/api"
	"lattice/pbuf"
	"lattice/seeds"
)

// anyNumber is mostly a small one, or near an edge.
func anyNumber(s *seeds.Seed) int {
	switch s.Below(8) {
	case 0:
		return []int{math.MinInt, math.MinInt + 1, math.MaxInt, math.MaxInt - 1}[s.Below(4)]
	case 1:
		return int(s.Next())
	case 2:
		return mostNum - 1 + s.Below(4)
	}
	return s.Below(8) - 1
}

// wildFields may be or not.
func wildFields(s *seeds.Seed) []pbuf.Field {
	l := anyFields(s)
	for i := range l {
		switch s.Below(8) {
		case 0:
			l[i].Num = anyNumber(s)
		case 1:
			l[i].Wire = anyNumber(s)
		case 2:
			l[i].X = anyX(s)
		case 3:
			l[i].Data = anyBytes(s)
		}
	}
	return l
}

// The document's R1, R3 and R4: whatever is handed in, each call ends without a panic, changes nothing of it, and answers zero values beside an error.
func TestAnyArguments(t *testing.T) {
	s := seeds.Seed(11)
	for range 20000 {
		b, l, num, wire := anyBytes(&s), wildFields(&s), anyNumber(&s), anyNumber(&s)
		sameB, sameL := slices.Clone(b), cloned(l)
		x, behind, err := pbuf.ReadVarint(b, num)
		zeroBeside(t, "ReadVarint", x == 0 && behind == 0, err, api.ErrPlace, api.ErrMalformed)
		read, err := pbuf.Read(b)
		zeroBeside(t, "Read", len(read) == 0, err, api.ErrMalformed)
		written, err := pbuf.Write(l)
		zeroBeside(t, "Write", len(written) == 0, err, api.ErrArg)
		pbuf.All(l, num)
		last, is, err := pbuf.Last(l, num, wire)
		zeroBeside(t, "Last", !is && alike(last, pbuf.Field{}), err, api.ErrMalformed)
		joined, is, err := pbuf.Joined(l, num)
		zeroBeside(t, "Joined", !is && len(joined) == 0, err, api.ErrMalformed)
		ints, err := pbuf.Ints(l, num)
		zeroBeside(t, "Ints", len(ints) == 0, err, api.ErrMalformed)
		fixed, err := pbuf.Fixed(l, num)
		zeroBeside(t, "Fixed", len(fixed) == 0, err, api.ErrMalformed)
		if !bytes.Equal(b, sameB) || !slices.EqualFunc(l, sameL, alike) {
			t.Fatalf("%v, %v became %v, %v", sameB, sameL, b, l)
		}
	}
}

// zeroBeside: the error is OK or one that the call may tell, and the rest is zero beside it.
func zeroBeside(t *testing.T, call string, zero bool, err api.Errno, may ...api.Errno) {
	t.Helper()
	if err != api.OK && (!zero || !slices.Contains(may, err)) {
		t.Fatalf("%s: %v, zero beside it: %v", call, err, zero)
	}
}

// spoil writes over all that a list has, its room too.
func spoil[E any](list []E, with E) {
	full := list[:cap(list)]
	for i := range full {
		full[i] = with
	}
}

// answers are all lists that the calls answer of a message and its fields.
type answers struct {
	varint, written, joined []byte
	read, all               []pbuf.Field
	last                    pbuf.Field
	ints                    []uint64
	fixed                   []uint32
}

func answersOf(b []byte, l []pbuf.Field) answers {
	var a answers
	a.varint = pbuf.Varint(300)
	a.read, _ = pbuf.Read(b)
	a.written, _ = pbuf.Write(l)
	a.all = pbuf.All(l, 1)
	a.last, _, _ = pbuf.Last(l, 1, 2)
	a.joined, _, _ = pbuf.Joined(l, 1)
	a.ints, _ = pbuf.Ints(l, 1)
	a.fixed, _ = pbuf.Fixed(l, 1)
	return a
}

func (a answers) alike(c answers) bool {
	return bytes.Equal(a.varint, c.varint) && bytes.Equal(a.written, c.written) && bytes.Equal(a.joined, c.joined) &&
		slices.EqualFunc(a.read, c.read, alike) && slices.EqualFunc(a.all, c.all, alike) && alike(a.last, c.last) &&
		slices.Equal(a.ints, c.ints) && slices.Equal(a.fixed, c.fixed)
}

func (a answers) spoil() {
	for _, f := range slices.Concat(a.read, a.all, fields(a.last)) {
		spoil(f.Data, 77)
	}
	spoil(a.varint, 77)
	spoil(a.written, 77)
	spoil(a.joined, 77)
	spoil(a.read, pbuf.Field{Num: 77})
	spoil(a.all, pbuf.Field{Num: 77})
	spoil(a.ints, 77)
	spoil(a.fixed, 77)
}

// joinedFields are fields of Num 1 with Data of fours of bytes, which are varints too: one of them without bytes but with room.
func joinedFields(s *seeds.Seed) []pbuf.Field {
	l := make([]pbuf.Field, 1+s.Below(4))
	for i := range l {
		l[i] = of(1, make([]byte, 4*s.Below(4), 20)...)
		for j := range l[i].Data {
			l[i].Data[j] = byte(s.Below(128))
		}
	}
	return slices.Insert(l, s.Below(len(l)+1), pbuf.Field{Num: 1, Wire: 2, Data: row(1, 2, 3)[:0]})
}

// R3: what is answered shares no memory with what was handed in, nor with another answer.
func TestNewMemory(t *testing.T) {
	s := seeds.Seed(12)
	for range 2000 {
		l := joinedFields(&s)
		b := wantWrite(l...)
		sameB, sameL := slices.Clone(b), cloned(l)
		first, want := answersOf(b, l), answersOf(b, l)
		if len(want.read) != len(l) || len(want.written) != len(b) || len(want.joined) != len(want.ints) || len(want.ints) != 4*len(want.fixed) {
			t.Fatalf("of %v: %v", l, want)
		}
		first.spoil()
		if !bytes.Equal(b, sameB) || !slices.EqualFunc(l, sameL, alike) {
			t.Fatalf("%v, %v became %v, %v", sameB, sameL, b, l)
		}
		if again := answersOf(b, l); !again.alike(want) {
			t.Fatalf("of %v: %v, and was %v", l, again, want)
		}
		kept := answersOf(b, l)
		spoil(b, 78)
		for i := range l {
			spoil(l[i].Data, 78)
		}
		spoil(l, pbuf.Field{Num: 78})
		if !kept.alike(want) {
			t.Fatalf("what was answered of %v became %v", sameL, kept)
		}
	}
}

// R3: no two lists of one answer share memory, though those that were handed in did.
func TestNoSharing(t *testing.T) {
	data := row(1, 2, 3, 4, 5, 6)
	l := fields(of(1, data...), of(1, data[2:4]...), pbuf.Field{Num: 1, Wire: 2, Data: data[:3]}, pbuf.Field{Num: 1, Wire: 0, Data: data}, of(1))
	b := wantWrite(of(1, data...), of(1, data[:3]...), of(1), of(1, data...))
	read, err := pbuf.Read(b)
	if err != api.OK {
		t.Fatal(err)
	}
	for _, list := range [][]pbuf.Field{read, pbuf.All(l, 1)} {
		for i := range list {
			want := cloned(list)
			want[i] = pbuf.Field{}
			spoil(list[i].Data, 77)
			list[i] = pbuf.Field{}
			if !slices.EqualFunc(list, want, alike) {
				t.Errorf("field %d shares memory: %v, want %v", i, list, want)
			}
		}
	}
}

// roomy is a list with room behind it that holds more of the same kind.
func roomy[E any](list []E, behind ...E) []E {
	return slices.Concat(list, behind)[:len(list)]
}

// What a list has room for is none of it: no answer hangs on a capacity.
func TestRoom(t *testing.T) {
	for _, c := range []struct{ b, behind []byte }{
		{row(26, 3, 65), row(66, 67)}, {row(8), row(1)}, {row(8, 128), row(1)}, {row(13, 1, 2, 3), row(4)}, {row(9, 1), row(2, 3, 4, 5, 6, 7, 8)}, {row(10), row(0)}, {row(128), row(1, 1)},
	} {
		b := roomy(c.b, c.behind...)
		wantFields(t, told("Read with room ", b), nil, api.ErrMalformed)(pbuf.Read(b))
		whole, err := wantRead(together(c.b, c.behind))
		if err != api.OK {
			t.Fatal(c, err)
		}
		wantFields(t, told("Read of all ", c), whole, api.OK)(pbuf.Read(b[:len(b)+len(c.behind)]))
	}
	wantFields(t, "Read with much room", fields(pbuf.Field{Num: 1, X: 1}), api.OK)(pbuf.Read(roomy(row(8, 1), make([]byte, api.MaxBytes)...)))
	for _, wire := range []int{0, 1, 5} {
		f := pbuf.Field{Num: 1, Wire: wire, X: 3, Data: roomy(nil, row(1)...)}
		wantList(t, told("Write with room ", f), wantWrite(f), api.OK)(pbuf.Write(fields(f)))
	}
	much := of(1, 1)
	much.Data = roomy(much.Data, make([]byte, api.MaxBytes)...)
	wantList(t, "Write with much room", row(10, 1, 1), api.OK)(pbuf.Write(fields(much)))
	wantList(t, "Write of a list with room", row(10, 1, 1), api.OK)(pbuf.Write(roomy(fields(of(1, 1)), of(0))))
	l := roomy(fields(of(1)), of(1, 7), pbuf.Field{Num: 1, Wire: 3})
	wantFields(t, "All with room", fields(of(1)), api.OK)(pbuf.All(l, 1), api.OK)
	wantLast(t, "Last with room", of(1), true, api.OK)(pbuf.Last(l, 1, 2))
	wantJoined(t, "Joined with room", nil, true, api.OK)(pbuf.Joined(l, 1))
	for size := 1; size < 4; size++ {
		l := fields(pbuf.Field{Num: 1, Wire: 2, Data: roomy(bytes.Repeat(row(128), size), row(0, 0, 0, 0)...)})
		wantList(t, told("Ints with room ", l), []uint64(nil), api.ErrMalformed)(pbuf.Ints(l, 1))
		wantList(t, told("Fixed with room ", l), []uint32(nil), api.ErrMalformed)(pbuf.Fixed(l, 1))
	}
}

// P1: lists that are nil, and asked for Nums that may not be.
func TestNothingHandedIn(t *testing.T) {
	for _, num := range append([]int{1, mostNum}, noNums...) {
		wantFields(t, told("All ", num), nil, api.OK)(pbuf.All(nil, num), api.OK)
		wantJoined(t, told("Joined ", num), nil, false, api.OK)(pbuf.Joined(nil, num))
		wantList(t, told("Ints ", num), []uint64(nil), api.OK)(pbuf.Ints(nil, num))
		wantList(t, told("Fixed ", num), []uint32(nil), api.OK)(pbuf.Fixed(nil, num))
		for _, wire := range append(slices.Clone(wires), noWires...) {
			wantLast(t, told("Last ", num, " ", wire), pbuf.Field{}, false, api.OK)(pbuf.Last(nil, num, wire))
		}
	}
	wantFields(t, "Read of nil", nil, api.OK)(pbuf.Read(nil))
	wantList(t, "Write of nil", []byte(nil), api.OK)(pbuf.Write(nil))
}
