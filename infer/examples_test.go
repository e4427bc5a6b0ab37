package infer_test

import (
	"testing"

	"lattice/api"
	"lattice/infer"
)

// The chapter's examples 1, 2 and 4, and the document's ninth.
func TestExamples(t *testing.T) {
	says(t, api.OpAdd, plain, "f3.1 f2.1.4", "f2.3.4")
	says(t, api.OpAdd, plain, "f3 i3", "ErrType")
	says(t, api.OpReshape, plain, "f2.6 t0,-1,3", "f2.2.3")
	says(t, api.OpReshape, plain, "f2.6 t5", "ErrShape")
	says(t, api.OpReshape, plain, "f2.6 i3", "ErrConst")
	says(t, api.OpSlice, plain, "f10 t-1 t-11 t0 t-3", "f4")
	gives(t, api.OpSplit, plain, vals("f5"), 2, "ErrShape")
	says(t, api.OpMatMul, plain, "f2.1.3.4 f5.4.6", "f2.5.3.6")
	says(t, api.OpMatMul, plain, "f4 f4", "f")
}

// The chapter's third example.
func TestExamplesOfWindows(t *testing.T) {
	windows(t, 5, 3, 2, 1, 0, 0, api.ModeNone, false, 2, 0, api.OK)
	windows(t, 5, 3, 2, 1, 0, 0, api.ModeNone, true, 2, 0, api.OK)
	windows(t, 6, 3, 2, 1, 0, 0, api.ModeNone, true, 3, 0, api.OK)
	windows(t, 5, 3, 2, 1, 9, 9, api.ModeUpper, false, 3, 1, api.OK)
	windows(t, 2, 3, 1, 1, 0, 0, api.ModeValid, false, 0, 0, api.ErrShape)
}

func windows(t *testing.T, size, kernel, stride, dilation, ahead, behind, auto int, ceil bool, n, pad int, err api.Errno) {
	t.Helper()
	gotN, gotPad, gotErr := infer.Window(size, kernel, stride, dilation, ahead, behind, auto, ceil)
	if gotN != n || gotPad != pad || gotErr != err {
		t.Errorf("%d %d %d %d %d %d %d %t: %d, %d, %v, want %d, %d, %v", size, kernel, stride, dilation, ahead, behind, auto, ceil, gotN, gotPad, gotErr, n, pad, err)
	}
	gotN, gotPad, gotErr = wantWindow(size, kernel, stride, dilation, ahead, behind, auto, ceil)
	if gotN != n || gotPad != pad || gotErr != err {
		t.Errorf("%d %d %d %d %d %d %d %t: the second writing has %d, %d, %v, want %d, %d, %v", size, kernel, stride, dilation, ahead, behind, auto, ceil, gotN, gotPad, gotErr, n, pad, err)
	}
}
