package pbuf_test

import (
	"bytes"
	"encoding/binary"
	"math"
	"testing"

	"lattice/api"
	"lattice/pbuf"
	"lattice/seeds"
)

// P6.1: forms told here byte by byte.
func TestVarintWrittenOut(t *testing.T) {
	for _, c := range []struct {
		x uint64
		b []byte
	}{
		{0, row(0)}, {1, row(1)}, {127, row(127)}, {128, row(128, 1)}, {129, row(129, 1)}, {255, row(255, 1)}, {256, row(128, 2)},
		{16383, row(255, 127)}, {16384, row(128, 128, 1)}, {0x123456, row(0xD6, 0xE8, 0x48)}, {1<<21 - 1, row(255, 255, 127)}, {1 << 21, row(128, 128, 128, 1)},
		{1<<32 - 1, row(255, 255, 255, 255, 15)}, {1<<63 - 1, row(255, 255, 255, 255, 255, 255, 255, 255, 127)},
		{1 << 63, row(128, 128, 128, 128, 128, 128, 128, 128, 128, 1)}, {1<<64 - 1, row(255, 255, 255, 255, 255, 255, 255, 255, 255, 1)},
	} {
		if got := pbuf.Varint(c.x); !bytes.Equal(got, c.b) {
			t.Errorf("Varint(%d): %v, want %v", c.x, got, c.b)
		}
		wantPlace(t, told("ReadVarint ", c.b), c.x, len(c.b), api.OK)(pbuf.ReadVarint(c.b, 0))
	}
}

// P6.1: the form is the shortest, of 1 to 10 bytes, and is read back.
func TestVarintShortest(t *testing.T) {
	s := seeds.Seed(1)
	all := marks()
	for range 20000 {
		all = append(all, anyX(&s))
	}
	sizes := map[int]int{}
	for _, x := range all {
		b := pbuf.Varint(x)
		if want := binary.AppendUvarint(nil, x); !bytes.Equal(b, want) {
			t.Errorf("Varint(%d): %v, want %v", x, b, want)
			continue
		}
		sizes[len(b)]++
		if len(b) > 1 && b[len(b)-1] == 0 {
			t.Errorf("Varint(%d): %v is not the shortest", x, b)
		}
		wantPlace(t, told("ReadVarint ", b), x, len(b), api.OK)(pbuf.ReadVarint(b, 0))
	}
	for size := 1; size <= 10; size++ {
		if sizes[size] == 0 {
			t.Errorf("no number of %d bytes was tried", size)
		}
	}
}

// P6.1: each longer form is read as the same number, wherever it stands; one whose bytes end within it is not.
func TestReadVarintForms(t *testing.T) {
	for _, x := range marks() {
		for size := len(binary.AppendUvarint(nil, x)); size <= 10; size++ {
			b := longer(x, size)
			for _, ahead := range [][]byte{nil, {0}, {255}, {128, 128, 128}, bytes.Repeat(row(255), 12)} {
				for _, behind := range [][]byte{nil, {0}, {1}, {255}, {128, 128}} {
					all := together(ahead, b, behind)
					wantPlace(t, told("ReadVarint ", all, len(ahead)), x, len(ahead)+size, api.OK)(pbuf.ReadVarint(all, len(ahead)))
				}
				for cut := range size {
					all := together(ahead, b[:cut])
					wantPlace(t, told("ReadVarint ", all, len(ahead)), 0, 0, api.ErrMalformed)(pbuf.ReadVarint(all, len(ahead)))
				}
			}
		}
	}
}

// P6.1: the tenth byte is 0 or 1, whatever stands ahead of it and behind it.
func TestReadVarintTenth(t *testing.T) {
	for _, low := range []byte{128, 129, 255} {
		nine := bytes.Repeat(row(low), 9)
		below := uint64(0)
		for i := range 9 {
			below |= uint64(low-128) << (7 * i)
		}
		for value := range 256 {
			for _, behind := range [][]byte{nil, {0}, {1}, {2}, {255}} {
				b := together(nine, row(byte(value)), behind)
				switch value {
				case 0, 1:
					wantPlace(t, told("ReadVarint ", b), below+uint64(value)<<63, 10, api.OK)(pbuf.ReadVarint(b, 0))
				default:
					wantPlace(t, told("ReadVarint ", b), 0, 0, api.ErrMalformed)(pbuf.ReadVarint(b, 0))
				}
			}
		}
	}
}

// P6.1: no varint has an eleventh byte, or more.
func TestReadVarintEleventh(t *testing.T) {
	for size := 11; size <= 30; size++ {
		for _, last := range []byte{0, 1, 2, 127} {
			for _, more := range []byte{128, 129, 255} {
				b := append(bytes.Repeat(row(more), size-1), last)
				wantPlace(t, told("ReadVarint ", b), 0, 0, api.ErrMalformed)(pbuf.ReadVarint(b, 0))
			}
		}
	}
}

// P6.1: a place is 0 to the bytes' number; none stands at that last one.
func TestReadVarintPlaces(t *testing.T) {
	for _, b := range [][]byte{nil, {}, {0}, {5}, {128}, {172, 2}, {1, 2, 3}, bytes.Repeat(row(255), 11)} {
		n := len(b)
		for _, at := range []int{-1, -2, n + 1, n + 2, n + 1<<32, -1 << 32, math.MinInt, math.MinInt + 1, math.MaxInt, math.MaxInt - 1} {
			wantPlace(t, told("ReadVarint ", b, at), 0, 0, api.ErrPlace)(pbuf.ReadVarint(b, at))
		}
		wantPlace(t, told("ReadVarint ", b, n), 0, 0, api.ErrMalformed)(pbuf.ReadVarint(b, n))
	}
	// Bytes that there is only room for are none.
	room := row(1, 2, 3)[:1]
	wantPlace(t, "ReadVarint with room", 0, 0, api.ErrPlace)(pbuf.ReadVarint(room, 2))
	wantPlace(t, "ReadVarint with room", 0, 0, api.ErrMalformed)(pbuf.ReadVarint(room, 1))
}

// P6.1: any bytes, at each place.
func TestReadVarintAny(t *testing.T) {
	s := seeds.Seed(2)
	for range 20000 {
		b := anyBytes(&s)
		for at := -1; at <= len(b)+1; at++ {
			x, behind, err := wantVarint(b, at)
			wantPlace(t, told("ReadVarint ", b, at), x, behind, err)(pbuf.ReadVarint(b, at))
		}
	}
}
