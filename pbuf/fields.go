package pbuf

import (
	"bytes"
	"slices"

	"lattice/api"
)

// All are the fields of one number.
func All(l []Field, num int) []Field {
	var all []Field
	for _, f := range l {
		if f.Num == num {
			all = append(all, copied(f))
		}
	}
	return all
}

// Last is the last field of one number.
func Last(l []Field, num, wire int) (Field, bool, api.Errno) {
	all, err := said(l, num, wire)
	if err != api.OK || len(all) == 0 {
		return Field{}, false, err
	}
	return copied(all[len(all)-1]), true, api.OK
}

// Joined is the bytes of all fields of one number, one behind the other.
func Joined(l []Field, num int) ([]byte, bool, api.Errno) {
	all, err := said(l, num, dataWire)
	if err != api.OK {
		return nil, false, err
	}
	var b []byte
	for _, f := range all {
		b = append(b, f.Data...)
	}
	return b, len(all) > 0, api.OK
}

// Ints are the varints of one number, packed or not.
func Ints(l []Field, num int) ([]uint64, api.Errno) {
	return numbers(l, num, varintWire, ReadVarint)
}

// Fixed are the fours of bytes of one number, packed or not.
func Fixed(l []Field, num int) ([]uint32, api.Errno) {
	wide, err := numbers(l, num, fourWire, readFour)
	var list []uint32
	for _, x := range wide {
		list = append(list, uint32(x))
	}
	return list, err
}

// numbers are X of each field of the Wire single, and of each one of bytes what read finds in its Data.
func numbers(l []Field, num, single int, read func([]byte, int) (uint64, int, api.Errno)) ([]uint64, api.Errno) {
	all, err := said(l, num, single, dataWire)
	if err != api.OK {
		return nil, err
	}
	var list []uint64
	for _, f := range all {
		if f.Wire == single {
			list = append(list, f.X)
			continue
		}
		packed, err := parts(f.Data, read)
		if err != api.OK {
			return nil, err
		}
		list = append(list, packed...)
	}
	return list, api.OK
}

// said are the fields of one number, their Data still l's own; the Wire of each must be one of wires.
func said(l []Field, num int, wires ...int) ([]Field, api.Errno) {
	var all []Field
	for _, f := range l {
		if f.Num != num {
			continue
		}
		if !slices.Contains(wires, f.Wire) {
			return nil, api.ErrMalformed
		}
		all = append(all, f)
	}
	return all, api.OK
}

// copied is a field whose Data is in memory of its own.
func copied(f Field) Field {
	f.Data = bytes.Clone(f.Data)
	return f
}
