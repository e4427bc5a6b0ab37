package ewise_test

import (
	"testing"

	"lattice/api"
	"lattice/ewise"
)

// The chapter's examples.
func TestExamples(t *testing.T) {
	gives(t, api.OpAdd, plain, "f:3F800000 f:40000000,40400000", "f:40400000,40800000")
	gives(t, api.OpDiv, plain, "i:7 i:0", "ErrDivide")
	gives(t, api.OpMod, plain, "i:-7 i:3", "i:2")
	gives(t, api.OpMod, fmod, "i:-7 i:3", "i:-1")
	gives(t, api.OpMod, plain, "i:7 i:-3", "i:-2")
	gives(t, api.OpMod, fmod, "f:C0F00000 f:40000000", "f:BFC00000")
	gives(t, api.OpClip, plain, "i.:5 - i.:3", "i.:3")
	gives(t, api.OpCast, api.Setting{To: api.Bool}, "f:7FC00000", "b:1")
	got, err := ewise.Part(api.OpAdd, plain, tensors("f:3F800000 f:40000000,40400000"), 1, 2)
	if w := words(got, err); w != "f:40800000" {
		t.Error(w)
	}
}

// The document's own: a tie, the exponential of what is far below 0, a power that is no number, a division by 0.
func TestDocumentsExamples(t *testing.T) {
	gives(t, api.OpAdd, plain, "f.:3F800000 f.:33800000", "f.:3F800000")
	gives(t, api.OpExp, plain, "f.:FF800000", "f.:00000000")
	gives(t, api.OpPow, plain, "f.:BF800000 f.:3F000000", "f.:7FC00000")
	gives(t, api.OpDiv, plain, "i.:1 i.:0", "ErrDivide")
	gives(t, api.OpMod, plain, "i.:0 i.:0", "ErrDivide")
}
