package pbuf

import (
	"bytes"

	"lattice/api"
)

// Read is a message's fields.
func Read(b []byte) ([]Field, api.Errno) {
	if len(b) > api.MaxBytes {
		return nil, api.ErrLimit
	}
	return parts(b, readField)
}

// Write is the message of some fields.
func Write(l []Field) ([]byte, api.Errno) {
	for _, f := range l {
		if !mayBe(f) {
			return nil, api.ErrArg
		}
	}
	var b []byte
	for _, f := range l {
		head := headOf(f)
		// Asked ahead of laying them, so that what is too much takes no memory.
		if len(b)+len(head)+len(f.Data) > api.MaxBytes {
			return nil, api.ErrLimit
		}
		b = append(append(b, head...), f.Data...)
	}
	return b, api.OK
}

// readField is the field that stands at a place, and the place behind it.
func readField(b []byte, at int) (Field, int, api.Errno) {
	tag, at, err := ReadVarint(b, at)
	num := tag >> wireBits
	if err != api.OK || num < 1 || num > mostNum {
		return Field{}, 0, api.ErrMalformed
	}
	f := Field{Num: int(num), Wire: int(tag & wireMask)}
	switch f.Wire {
	case varintWire:
		f.X, at, err = ReadVarint(b, at)
	case eightWire:
		f.X, at, err = readEight(b, at)
	case fourWire:
		f.X, at, err = readFour(b, at)
	case dataWire:
		f.Data, at, err = readData(b, at)
	default:
		err = api.ErrMalformed
	}
	if err != api.OK {
		return Field{}, 0, err
	}
	return f, at, api.OK
}

// readData is a length's bytes in memory of their own, and the place behind them.
func readData(b []byte, at int) ([]byte, int, api.Errno) {
	size, at, err := ReadVarint(b, at)
	// Held against each other as uint64s, since a length may be more than any int.
	if err != api.OK || size > uint64(len(b)-at) {
		return nil, 0, api.ErrMalformed
	}
	end := at + int(size)
	return bytes.Clone(b[at:end]), end, api.OK
}

// readFour is the number of four bytes, and the place behind them.
func readFour(b []byte, at int) (uint64, int, api.Errno) { return readWide(b, at, 4) }

// readEight is the number of eight bytes, and the place behind them.
func readEight(b []byte, at int) (uint64, int, api.Errno) { return readWide(b, at, 8) }

func readWide(b []byte, at, width int) (uint64, int, api.Errno) {
	if len(b)-at < width {
		return 0, 0, api.ErrMalformed
	}
	x := uint64(0)
	// From the last byte back, as that is the greatest one.
	for i := width - 1; i >= 0; i-- {
		x = x<<8 | uint64(b[at+i])
	}
	return x, at + width, api.OK
}

// headOf is all of a field's bytes ahead of its Data.
func headOf(f Field) []byte {
	b := Varint(uint64(f.Num)<<wireBits | uint64(f.Wire))
	switch f.Wire {
	case eightWire:
		return withWide(b, f.X, 8)
	case fourWire:
		return withWide(b, f.X, 4)
	case dataWire:
		return withVarint(b, uint64(len(f.Data)))
	}
	return withVarint(b, f.X)
}

// withWide is b with a number's bytes behind it, the least one first.
func withWide(b []byte, x uint64, width int) []byte {
	for range width {
		b = append(b, byte(x))
		x >>= 8
	}
	return b
}
