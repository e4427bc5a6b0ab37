package onnx

import "lattice/api"

// stored is what a tensor's elements may stand in.
type stored struct {
	floats         []uint32
	small, numbers []int64
	raw            []byte
	isRaw          bool
}

func readTensor(m message) api.Init {
	kind := int(m.number(tensorType))
	m.note(kind == api.None, malformed)
	m.note(width(kind) == 0, strange)
	_, segment := m.last(tensorSegment, dataWire)
	m.note(segment, strange)
	m.note(m.number(tensorPlace) != 0, strange)
	name := m.name(tensorName)
	dims := changed(m.numbers(tensorDims), func(d int64) int { return int(d) })
	n, fits := m.count(dims)
	elements := readStored(m)
	if !fits || width(kind) == 0 {
		return api.Init{}
	}
	t, is := elements.tensor(kind, n)
	m.note(!is, malformed)
	t.Dims = dims
	return api.Init{Name: name, T: t}
}

func readStored(m message) stored {
	raw, isRaw := m.last(tensorRaw, dataWire)
	return stored{
		floats:  m.floats(tensorFloats),
		small:   m.numbers(tensorSmall),
		numbers: m.numbers(tensorInts),
		raw:     raw.Data,
		isRaw:   isRaw,
	}
}

// tensor is n elements of a type, its dims left out; none, if there is no telling what they are.
func (s stored) tensor(kind, n int) (api.Tensor, bool) {
	if s.isRaw {
		if s.listed() > 0 || len(s.raw) != n*width(kind) {
			return api.Tensor{}, false
		}
		s = cut(kind, s.raw)
	}
	t, right := api.Tensor{Type: kind}, true
	switch kind {
	case api.Float:
		t.F = s.floats
	case api.Int:
		t.I = s.numbers
	case api.Bool:
		t.B, right = truths(s.small)
	}
	// If as many stand in the type's own list as in all, the others are empty.
	own := len(t.F) + len(t.I) + len(t.B)
	return t, right && own == n && s.listed() == n
}

// listed is how many elements stand in the lists.
func (s stored) listed() int { return len(s.floats) + len(s.small) + len(s.numbers) }

// cut is raw bytes as the list of their type.
func cut(kind int, raw []byte) stored {
	switch kind {
	case api.Float:
		return stored{floats: parted(raw, width(kind), func(bits uint64) uint32 { return uint32(bits) })}
	case api.Int:
		return stored{numbers: parted(raw, width(kind), func(bits uint64) int64 { return int64(bits) })}
	}
	return stored{small: parted(raw, width(kind), func(bits uint64) int64 { return int64(bits) })}
}

// parted is the list whose elements have such bytes, the least one first; b is known to end with an element.
func parted[E any](b []byte, size int, made func(uint64) E) []E {
	list := make([]E, len(b)/size)
	for i := range list {
		bits := uint64(0)
		// From the last byte back, as that is the greatest one.
		for j := size - 1; j >= 0; j-- {
			bits = bits<<8 | uint64(b[i*size+j])
		}
		list[i] = made(bits)
	}
	return list
}

// truths is a list of truths that stand there as 0 and 1; none, if there is another number.
func truths(list []int64) ([]bool, bool) {
	var all []bool
	for _, x := range list {
		if x != 0 && x != 1 {
			return nil, false
		}
		all = append(all, x == 1)
	}
	return all, true
}
