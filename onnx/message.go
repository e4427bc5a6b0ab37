package onnx

import (
	"lattice/api"
	"lattice/pbuf"
)

// fault is a class of what may be wrong with a file; a greater one is told ahead of a lesser one.
type fault int

const (
	fine fault = iota
	tooMuch
	strange
	malformed
)

// message is one of a file's. All messages of a file share the place where the worst of its faults is noted.
type message struct {
	fields []pbuf.Field
	worst  *fault
}

// opened is the message that has such bytes.
func (m message) opened(b []byte) message {
	l, err := pbuf.Read(b)
	m.note(err != api.OK, malformed)
	return message{l, m.worst}
}

// note keeps a fault in mind, if there is one.
func (m message) note(is bool, f fault) {
	if is {
		*m.worst = max(*m.worst, f)
	}
}

// limit notes that something is more than may be.
func (m message) limit(size, most int) { m.note(size > most, tooMuch) }

// last is the field that counts of a single one, if there is one.
func (m message) last(num, wire int) (pbuf.Field, bool) {
	f, is, err := pbuf.Last(m.fields, num, wire)
	m.note(err != api.OK, malformed)
	return f, is
}

// number is a single number.
func (m message) number(num int) int64 {
	f, _ := m.last(num, varintWire)
	return int64(f.X)
}

// float is the bits of a single float.
func (m message) float(num int) uint32 {
	f, _ := m.last(num, fourWire)
	return uint32(f.X)
}

// text is the bytes of a single field that is no message.
func (m message) text(num int) string {
	f, _ := m.last(num, dataWire)
	return string(f.Data)
}

// name is a single name.
func (m message) name(num int) string {
	f, _ := m.last(num, dataWire)
	return m.named(f.Data)
}

// named is the name of such bytes.
func (m message) named(b []byte) string {
	m.limit(len(b), api.MaxName)
	return string(b)
}

// inner is a single message, if there is one.
func (m message) inner(num int) (message, bool) {
	b, is, err := pbuf.Joined(m.fields, num)
	m.note(err != api.OK, malformed)
	return m.opened(b), is
}

// floats are the bits of all floats of one number.
func (m message) floats(num int) []uint32 {
	list, err := pbuf.Fixed(m.fields, num)
	m.note(err != api.OK, malformed)
	return list
}

// numbers are all numbers of one number.
func (m message) numbers(num int) []int64 {
	list, err := pbuf.Ints(m.fields, num)
	m.note(err != api.OK, malformed)
	return changed(list, func(x uint64) int64 { return int64(x) })
}

// messages are what read tells of the messages of one number, each one for itself.
func messages[T any](m message, num int, read func(message) T) []T {
	return rows(m, num, func(b []byte) T { return read(m.opened(b)) })
}

// rows are what is made of the bytes of one number's fields, each one for itself.
func rows[T any](m message, num int, made func([]byte) T) []T {
	return changed(pbuf.All(m.fields, num), func(f pbuf.Field) T {
		m.note(f.Wire != dataWire, malformed)
		return made(f.Data)
	})
}

// changed is a list of what is made of another one's elements.
func changed[From, To any](list []From, made func(From) To) []To {
	to := make([]To, len(list))
	for i, e := range list {
		to[i] = made(e)
	}
	return to
}
