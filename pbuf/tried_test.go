package pbuf_test

import (
	"bytes"
	"encoding/binary"
	"fmt"
	"math"
	"slices"
	"testing"

	"lattice/api"
	"lattice/pbuf"
	"lattice/seeds"
)

// This file holds what the tests try, and how they hold an answer against what is asked.

// mostNum is the greatest Num that a field may have.
const mostNum = 1<<29 - 1

// wires are the four that there are.
var wires = []int{0, 1, 2, 5}

// noWires are numbers that are no Wire: those between and beside the four, and some that are one in their lowest bits.
var noWires = []int{3, 4, 6, 7, -1, 8, 9, 10, 13, 16, -8, -3, 256, 258, 1 << 32, 1<<32 + 2, math.MinInt, math.MaxInt}

// noNums are numbers that no field may have.
var noNums = []int{0, -1, -2, mostNum + 1, mostNum + 2, 1<<32 + 1, 1<<61 + 1, math.MinInt, math.MinInt + 1, math.MaxInt}

// marks are numbers at which a varint's length changes, or a bit more is asked of it.
func marks() []uint64 {
	all := []uint64{0, 1, 2, 300, 1<<31 - 1, 1 << 31, 1<<32 - 1, 1 << 32, 1<<63 - 1, 1<<64 - 1, 1<<64 - 2, 0x0102030405060708}
	for k := 7; k < 64; k += 7 {
		all = append(all, 1<<k-1, 1<<k, 1<<k+1)
	}
	return all
}

// longer is a number's varint in so many bytes, which are no fewer than its shortest form has.
func longer(x uint64, size int) []byte {
	b := binary.AppendUvarint(nil, x)
	for len(b) < size {
		b[len(b)-1] |= 128
		b = append(b, 0)
	}
	return b
}

// together is some bytes one behind the other.
func together(rows ...[]byte) []byte { return slices.Concat(rows...) }

// row is some bytes.
func row(b ...byte) []byte { return b }

// fields is a list of some.
func fields(l ...pbuf.Field) []pbuf.Field { return l }

// of is a field with bytes.
func of(num int, data ...byte) pbuf.Field { return pbuf.Field{Num: num, Wire: 2, Data: data} }

// wantVarint is P6.1 by the library's own way to read one.
func wantVarint(b []byte, at int) (uint64, int, api.Errno) {
	if at < 0 || at > len(b) {
		return 0, 0, api.ErrPlace
	}
	x, n := binary.Uvarint(b[at:])
	if n <= 0 {
		return 0, 0, api.ErrMalformed
	}
	return x, at + n, api.OK
}

// wantRead is P6.2: the first field, and those of what is left.
func wantRead(b []byte) ([]pbuf.Field, api.Errno) {
	var l []pbuf.Field
	for len(b) > 0 {
		tag, n := binary.Uvarint(b)
		if n <= 0 || tag < 8 || tag >= 1<<32 {
			return nil, api.ErrMalformed
		}
		b = b[n:]
		f := pbuf.Field{Num: int(tag / 8), Wire: int(tag % 8)}
		size := map[int]int{1: 8, 5: 4}[f.Wire]
		switch f.Wire {
		case 0, 2:
			x, n := binary.Uvarint(b)
			if n <= 0 || f.Wire == 2 && x > uint64(len(b[n:])) {
				return nil, api.ErrMalformed
			}
			b = b[n:]
			if f.X = x; f.Wire == 2 {
				f.X, f.Data, size = 0, b[:x], int(x)
			}
		case 1, 5:
			if len(b) < size {
				return nil, api.ErrMalformed
			}
			if f.X = uint64(binary.LittleEndian.Uint32(b)); f.Wire == 1 {
				f.X = binary.LittleEndian.Uint64(b)
			}
		default:
			return nil, api.ErrMalformed
		}
		l, b = append(l, f), b[size:]
	}
	return l, api.OK
}

// wantWrite is a field's bytes as P6.3 has them.
func wantWrite(l ...pbuf.Field) []byte {
	var b []byte
	for _, f := range l {
		b = binary.AppendUvarint(b, uint64(f.Num)*8+uint64(f.Wire))
		switch f.Wire {
		case 0:
			b = binary.AppendUvarint(b, f.X)
		case 1:
			b = binary.LittleEndian.AppendUint64(b, f.X)
		case 5:
			b = binary.LittleEndian.AppendUint32(b, uint32(f.X))
		case 2:
			b = append(binary.AppendUvarint(b, uint64(len(f.Data))), f.Data...)
		}
	}
	return b
}

// anyBytes are a few, many of them with the highest bit set, or small.
func anyBytes(s *seeds.Seed) []byte {
	b := make([]byte, s.Below(1+s.Below(30)))
	for i := range b {
		switch s.Below(5) {
		case 0:
			b[i] = byte(s.Next())
		case 1, 2:
			b[i] = byte(s.Next()) | 128
		default:
			b[i] = byte(s.Below(4))
		}
	}
	return b
}

// anyX is a number of any length in bits.
func anyX(s *seeds.Seed) uint64 { return s.Next() >> s.Below(64) }

// anyField is one that may be.
func anyField(s *seeds.Seed) pbuf.Field {
	f := pbuf.Field{Num: 1 + s.Below(4), Wire: wires[s.Below(4)]}
	if s.Below(3) == 0 {
		f.Num = 1 + int(s.Next()%mostNum)>>s.Below(29)
	}
	switch f.Wire {
	case 0, 1:
		f.X = anyX(s)
	case 5:
		f.X = anyX(s) >> 32
	case 2:
		f.Data = anyBytes(s)
		if s.Below(20) == 0 {
			f.Data = bytes.Repeat(row(7), s.Below(40000))
		}
	}
	return f
}

// anyFields are a few that may be.
func anyFields(s *seeds.Seed) []pbuf.Field {
	l := make([]pbuf.Field, s.Below(1+s.Below(12)))
	for i := range l {
		l[i] = anyField(s)
	}
	return l
}

// longWritten is the fields' message, its varints as long as chance has it.
func longWritten(s *seeds.Seed, l []pbuf.Field) []byte {
	var b []byte
	any := func(x uint64) { b = append(b, longer(x, 1+s.Below(10))...) }
	for _, f := range l {
		any(uint64(f.Num)*8 + uint64(f.Wire))
		switch f.Wire {
		case 0:
			any(f.X)
		case 2:
			any(uint64(len(f.Data)))
			b = append(b, f.Data...)
		default:
			b = append(b, wantWrite(f)[len(binary.AppendUvarint(nil, uint64(f.Num)*8)):]...)
		}
	}
	return b
}

// cloned are the fields in memory that the tests keep for themselves.
func cloned(l []pbuf.Field) []pbuf.Field {
	c := slices.Clone(l)
	for i := range c {
		c[i].Data = slices.Clone(c[i].Data)
	}
	return c
}

// alike: are two fields the same? Data without bytes may be nil or not.
func alike(a, b pbuf.Field) bool {
	return a.Num == b.Num && a.Wire == b.Wire && a.X == b.X && bytes.Equal(a.Data, b.Data)
}

// wantFields asks an answer of fields; beside an error there are none.
func wantFields(t *testing.T, call any, want []pbuf.Field, wantErr api.Errno) func([]pbuf.Field, api.Errno) {
	return func(got []pbuf.Field, err api.Errno) {
		t.Helper()
		if err != wantErr || !slices.EqualFunc(got, want, alike) {
			t.Errorf("%v: %v, %v; want %v, %v", call, first(got), err, first(want), wantErr)
		}
	}
}

// wantList asks an answer of a list; beside an error it has no elements.
func wantList[E comparable](t *testing.T, call any, want []E, wantErr api.Errno) func([]E, api.Errno) {
	return func(got []E, err api.Errno) {
		t.Helper()
		if err != wantErr || !slices.Equal(got, want) {
			t.Errorf("%v: %v, %v; want %v, %v", call, first(got), err, first(want), wantErr)
		}
	}
}

// wantPlace asks an answer of a number and a place; beside an error both are 0.
func wantPlace(t *testing.T, call any, want uint64, wantBehind int, wantErr api.Errno) func(uint64, int, api.Errno) {
	return func(got uint64, behind int, err api.Errno) {
		t.Helper()
		if got != want || behind != wantBehind || err != wantErr {
			t.Errorf("%v: %d, %d, %v; want %d, %d, %v", call, got, behind, err, want, wantBehind, wantErr)
		}
	}
}

// wantLast asks an answer of one field, and whether there is one.
func wantLast(t *testing.T, call any, want pbuf.Field, wantIs bool, wantErr api.Errno) func(pbuf.Field, bool, api.Errno) {
	return func(got pbuf.Field, is bool, err api.Errno) {
		t.Helper()
		if is != wantIs || err != wantErr || !alike(got, want) {
			t.Errorf("%v: %v, %v, %v; want %v, %v, %v", call, got, is, err, want, wantIs, wantErr)
		}
	}
}

// wantJoined asks an answer of bytes, and whether there are any fields.
func wantJoined(t *testing.T, call any, want []byte, wantIs bool, wantErr api.Errno) func([]byte, bool, api.Errno) {
	return func(got []byte, is bool, err api.Errno) {
		t.Helper()
		if is != wantIs || err != wantErr || !bytes.Equal(got, want) {
			t.Errorf("%v: %v, %v, %v; want %v, %v, %v", call, first(got), is, err, first(want), wantIs, wantErr)
		}
	}
}

// first is the beginning of a list.
func first[E any](list []E) []E { return list[:min(len(list), 24)] }

// told is a call with its arguments, for what a test tells.
func told(name string, args ...any) fmt.Stringer { return call{name, args} }

// call makes its text only where it is told, as most are not.
type call struct {
	name string
	args []any
}

func (c call) String() string {
	text := fmt.Sprint(c.args...)
	return c.name + text[:min(len(text), 300)]
}
