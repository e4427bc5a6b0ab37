package shape_test

import (
	"testing"

	"lattice/api"
	"lattice/shape"
)

// dims is a list of lengths, indices or axes.
func dims(list ...int) []int { return list }

// The chapter's examples, first row.
func TestExamplesOfPlaces(t *testing.T) {
	wantNumber(t, "Size(2 3)", 6, api.OK)(shape.Size(dims(2, 3)))
	wantNumber(t, "Size()", 1, api.OK)(shape.Size(dims()))
	wantList(t, "Strides(2 3 4)", dims(12, 4, 1), api.OK)(shape.Strides(dims(2, 3, 4)))
	wantList(t, "Index((2 3), 4)", dims(1, 1), api.OK)(shape.Index(dims(2, 3), 4))
	wantNumber(t, "Offset((2 3), (1 1))", 4, api.OK)(shape.Offset(dims(2, 3), dims(1, 1)))
	wantList(t, "Index((2 3), 6)", nil, api.ErrPlace)(shape.Index(dims(2, 3), 6))
	wantNumber(t, "Offset((2 3), (0 3))", 0, api.ErrPlace)(shape.Offset(dims(2, 3), dims(0, 3)))
	wantNumber(t, "Size(64 65)", 0, api.ErrSize)(shape.Size(dims(64, 65)))
	wantNumber(t, "Size(0 -1)", 0, api.ErrArg)(shape.Size(dims(0, -1)))
}

// The chapter's examples, second row.
func TestExamplesOfBroadcast(t *testing.T) {
	wantList(t, "Broadcast((3 1), (2 1 4))", dims(2, 3, 4), api.OK)(shape.Broadcast(dims(3, 1), dims(2, 1, 4)))
	wantList(t, "Broadcast((2), (3))", nil, api.ErrShape)(shape.Broadcast(dims(2), dims(3)))
	wantList(t, "Broadcast((), (5))", dims(5), api.OK)(shape.Broadcast(dims(), dims(5)))
	wantList(t, "Broadcast((0), (1))", dims(0), api.OK)(shape.Broadcast(dims(0), dims(1)))
	wantList(t, "Index((2 3 4), 17)", dims(1, 1, 1), api.OK)(shape.Index(dims(2, 3, 4), 17))
	wantNumber(t, "From((3 1), (2 3 4), 17)", 1, api.OK)(shape.From(dims(3, 1), dims(2, 3, 4), 17))
	wantNumber(t, "From((2), (3), 0)", 0, api.ErrShape)(shape.From(dims(2), dims(3), 0))
}

// The chapter's examples, third row.
func TestExamplesOfAxes(t *testing.T) {
	wantNumber(t, "Axis(-1, 3)", 2, api.OK)(shape.Axis(-1, 3))
	wantNumber(t, "Axis(3, 3)", 0, api.ErrPlace)(shape.Axis(3, 3))
	wantNumber(t, "Axis(0, 0)", 0, api.ErrPlace)(shape.Axis(0, 0))
	wantNamed(t, "Axes((0 -1), 3)", []bool{true, false, true}, api.OK)(shape.Axes(dims(0, -1), 3))
	wantNamed(t, "Axes((1 -2), 3)", nil, api.ErrArg)(shape.Axes(dims(1, -2), 3))
}
