package pbuf_test

import (
	"bytes"
	"encoding/binary"
	"testing"

	"lattice/api"
	"lattice/pbuf"
	"lattice/seeds"
)

// P6.2: messages told here byte by byte, each Wire among them.
func TestReadWrittenOut(t *testing.T) {
	for _, c := range []struct {
		b    []byte
		want []pbuf.Field
	}{
		{nil, nil}, {row(), nil},
		{row(8, 0), fields(pbuf.Field{Num: 1})},
		{row(120, 1), fields(pbuf.Field{Num: 15, X: 1})},
		{row(128, 1, 1), fields(pbuf.Field{Num: 16, X: 1})},
		{row(9, 8, 7, 6, 5, 4, 3, 2, 1), fields(pbuf.Field{Num: 1, Wire: 1, X: 0x0102030405060708})},
		{row(9, 0, 0, 0, 0, 0, 0, 0, 128), fields(pbuf.Field{Num: 1, Wire: 1, X: 1 << 63})},
		{row(13, 4, 3, 2, 1), fields(pbuf.Field{Num: 1, Wire: 5, X: 0x01020304})},
		{row(21, 255, 255, 255, 255), fields(pbuf.Field{Num: 2, Wire: 5, X: 1<<32 - 1})},
		{row(10, 0), fields(of(1))},
		{row(10, 3, 8, 255, 0), fields(of(1, 8, 255, 0))},
		{row(8, 255, 255, 255, 255, 255, 255, 255, 255, 255, 1), fields(pbuf.Field{Num: 1, X: 1<<64 - 1})},
		{row(248, 255, 255, 255, 15, 7), fields(pbuf.Field{Num: mostNum, X: 7})},
		{row(10, 0, 8, 1, 10, 1, 9, 8, 2, 13, 0, 0, 0, 0), fields(of(1), pbuf.Field{Num: 1, X: 1}, of(1, 9), pbuf.Field{Num: 1, X: 2}, pbuf.Field{Num: 1, Wire: 5})},
	} {
		wantFields(t, told("Read ", c.b), c.want, api.OK)(pbuf.Read(c.b))
	}
}

// bodies are what may stand behind a tag of each Wire, and what it says.
func bodies() map[int]struct {
	b []byte
	f pbuf.Field
} {
	type body = struct {
		b []byte
		f pbuf.Field
	}
	return map[int]body{
		0: {row(172, 2), pbuf.Field{X: 300}},
		1: {row(1, 2, 3, 4, 5, 6, 7, 8), pbuf.Field{Wire: 1, X: 0x0807060504030201}},
		2: {row(3, 255, 0, 11), pbuf.Field{Wire: 2, Data: row(255, 0, 11)}},
		5: {row(1, 2, 3, 255), pbuf.Field{Wire: 5, X: 0xFF030201}},
	}
}

// P6.2: Num is 1 to 2^29 - 1, in each form of the tag.
func TestReadNums(t *testing.T) {
	for wire, body := range bodies() {
		for _, num := range []uint64{1, 2, 15, 16, 17, 2047, 2048, 1 << 20, 1<<28 + 1, mostNum - 1, mostNum} {
			tag := num*8 + uint64(wire)
			for size := len(binary.AppendUvarint(nil, tag)); size <= 10; size++ {
				want := body.f
				want.Num = int(num)
				b := together(longer(tag, size), body.b)
				wantFields(t, told("Read ", b), fields(want), api.OK)(pbuf.Read(b))
			}
		}
		// Of these some would be one that may be, if their upper bits were lost.
		for _, num := range []uint64{0, 1 << 29, 1<<29 + 1, 1 << 30, 1<<32 + 1, 1<<32 + mostNum, 1<<60 + 1, 1<<61 - 1} {
			tag := num*8 + uint64(wire)
			for size := len(binary.AppendUvarint(nil, tag)); size <= 10; size++ {
				b := together(longer(tag, size), body.b)
				wantFields(t, told("Read ", b), nil, api.ErrMalformed)(pbuf.Read(b))
			}
		}
	}
}

// P6.2: a Wire is one of the four; the others are refused, whatever stands behind.
func TestReadWires(t *testing.T) {
	for num := 1; num < 40; num++ {
		for wire := range 8 {
			tag := binary.AppendUvarint(nil, uint64(num*8+wire))
			body, is := bodies()[wire]
			if is {
				want := body.f
				want.Num = num
				wantFields(t, told("Read ", tag, body.b), fields(want), api.OK)(pbuf.Read(together(tag, body.b)))
				continue
			}
			for _, behind := range [][]byte{nil, {0}, {1, 0}, bytes.Repeat(row(0), 12), {8, 1}, tag} {
				b := together(tag, behind)
				wantFields(t, told("Read ", b), nil, api.ErrMalformed)(pbuf.Read(b))
				ahead := together(row(8, 1), b)
				wantFields(t, told("Read ", ahead), nil, api.ErrMalformed)(pbuf.Read(ahead))
			}
		}
	}
}

// P6.2: a length is at most the bytes that are left, in each form of it.
func TestReadLengths(t *testing.T) {
	for left := range 200 {
		data := bytes.Repeat(row(9), left)
		for size := len(binary.AppendUvarint(nil, uint64(left))); size <= 10; size++ {
			b := together(row(26), longer(uint64(left), size), data)
			wantFields(t, told("Read ", b), fields(of(3, data...)), api.OK)(pbuf.Read(b))
		}
		for _, more := range []uint64{1, 2, 128, 1 << 31, 1<<32 - uint64(left), 1 << 32, 1 << 62, 1<<63 - 1 - uint64(left), 1<<63 - uint64(left), 1 << 63, 1<<64 - 1 - uint64(left)} {
			length := uint64(left) + more
			for size := len(binary.AppendUvarint(nil, length)); size <= 10; size++ {
				b := together(row(26), longer(length, size), data)
				wantFields(t, told("Read ", b), nil, api.ErrMalformed)(pbuf.Read(b))
			}
		}
	}
}

// P6.2: tags, numbers and lengths that are no varints.
func TestReadNoVarints(t *testing.T) {
	many := bytes.Repeat(row(0), 20)
	for _, last := range []byte{2, 3, 127, 128, 129, 255} {
		none := append(bytes.Repeat(row(136), 9), last)
		for _, b := range [][]byte{none, together(row(8), none), together(row(10), none)} {
			wantFields(t, told("Read ", b), nil, api.ErrMalformed)(pbuf.Read(b))
			b = together(b, many)
			wantFields(t, told("Read ", b), nil, api.ErrMalformed)(pbuf.Read(b))
		}
	}
}

// P6.2: bytes that end within a field are no message; those that end behind one are.
func TestReadEnds(t *testing.T) {
	s := seeds.Seed(3)
	l := fields(
		pbuf.Field{Num: 1, X: 1<<64 - 1}, pbuf.Field{Num: 300, Wire: 1, X: 1<<64 - 1}, pbuf.Field{Num: mostNum, Wire: 5, X: 1<<32 - 1},
		of(20), of(2, bytes.Repeat(row(255), 130)...), pbuf.Field{Num: 1, Wire: 1}, pbuf.Field{Num: 1, Wire: 5}, of(1, 8, 1, 8, 1),
	)
	for range 40 {
		ends, b := map[int]int{0: 0}, []byte(nil)
		for i := range l {
			b = append(b, longWritten(&s, l[i:i+1])...)
			ends[len(b)] = i + 1
		}
		for cut := range len(b) + 1 {
			want, err := []pbuf.Field(nil), api.ErrMalformed
			if n, is := ends[cut]; is {
				want, err = l[:n], api.OK
			}
			wantFields(t, told("Read of the first bytes ", cut), want, err)(pbuf.Read(b[:cut]))
		}
	}
}

// P6.2: all messages of at most two bytes, and some of three and four.
func TestReadShort(t *testing.T) {
	try := func(b []byte) {
		want, err := wantRead(b)
		wantFields(t, told("Read ", b), want, err)(pbuf.Read(b))
	}
	some := row(0, 1, 2, 3, 7, 8, 9, 10, 11, 12, 13, 14, 15, 16, 18, 127, 128, 129, 136, 255)
	for a := range 256 {
		try(row(byte(a)))
		for b := range 256 {
			try(row(byte(a), byte(b)))
		}
		for _, b := range some {
			for _, c := range some {
				try(row(byte(a), b, c))
				for _, d := range some {
					try(row(byte(a), b, c, d))
				}
			}
		}
	}
}

// P6.2: any bytes, and messages with a byte that was changed.
func TestReadAny(t *testing.T) {
	s := seeds.Seed(4)
	taken := 0
	for range 30000 {
		b := anyBytes(&s)
		if s.Below(3) > 0 {
			b = longWritten(&s, anyFields(&s))
			if len(b) > 0 && s.Below(2) == 0 {
				b[s.Below(len(b))] = byte(s.Next())
			}
		}
		want, err := wantRead(b)
		if err == api.OK {
			taken++
		}
		wantFields(t, told("Read ", b), want, err)(pbuf.Read(b))
	}
	if taken < 5000 || taken > 25000 {
		t.Errorf("%d were messages", taken)
	}
}

// P6.2: a message at MaxBytes is read; above it nothing is, whether it would be one or not.
func TestReadLimit(t *testing.T) {
	most := bytes.Repeat(row(8, 1), api.MaxBytes/2)
	l, err := pbuf.Read(most)
	if err != api.OK || len(l) != api.MaxBytes/2 {
		t.Errorf("%d fields, %v", len(l), err)
	}
	for i, f := range l {
		if !alike(f, pbuf.Field{Num: 1, X: 1}) {
			t.Fatalf("field %d is %v", i, f)
		}
	}
	data := bytes.Repeat(row(65), api.MaxBytes-5)
	one := together(row(10), binary.AppendUvarint(nil, uint64(len(data))), data)
	if len(one) != api.MaxBytes {
		t.Fatal(len(one))
	}
	wantFields(t, "one field of all bytes", fields(of(1, data...)), api.OK)(pbuf.Read(one))
	wantFields(t, "one byte fewer than its length", nil, api.ErrMalformed)(pbuf.Read(one[:len(one)-1]))
	wantFields(t, "no message at MaxBytes", nil, api.ErrMalformed)(pbuf.Read(make([]byte, api.MaxBytes)))
	wantFields(t, "no message above it", nil, api.ErrLimit)(pbuf.Read(make([]byte, api.MaxBytes+1)))
	wantFields(t, "a message and a byte", nil, api.ErrLimit)(pbuf.Read(together(most, row(8))))
	wantFields(t, "a message above it", nil, api.ErrLimit)(pbuf.Read(together(most, row(8, 1))))
	wantFields(t, "a longer form above it", nil, api.ErrLimit)(pbuf.Read(together(most[2:], row(8, 129, 0))))
	wantFields(t, "twice as many", nil, api.ErrLimit)(pbuf.Read(together(one, one)))
}
