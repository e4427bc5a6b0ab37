package moves_test

import (
	"testing"

	"lattice/api"
)

// The chapter's examples.
func TestExamples(t *testing.T) {
	gives(t, api.OpTranspose, plain, "i2.3:1,2,3,4,5,6", "i3.2:1,4,2,5,3,6")
	gives(t, api.OpSlice, plain, "i2.3:1,2,3,4,5,6 i:2 i:-4 i:1 i:-1", "i2.3:3,2,1,6,5,4")
	gives(t, api.OpGather, along(1), "i2.3:1,2,3,4,5,6 i:-1,0", "i2.2:3,1,6,4")
	gives(t, api.OpGather, along(1), "i2.3:1,2,3,4,5,6 i:3", "ErrIndex")
	gives(t, api.OpPad, by(api.ModeReflect), "i:1,2,3 i:2,1", "i:3,2,1,2,3,2")
	gives(t, api.OpPad, by(api.ModeEdge), "i:1,2,3 i:2,1", "i:1,1,1,2,3,3")
	gives(t, api.OpPad, by(api.ModeConstant), "i:1,2,3 i:2,1", "i:0,0,1,2,3,0")
	gives(t, api.OpScatterElements, plain, "i:1,2,3 i:0,0 i:5,7", "i:7,2,3")
	gives(t, api.OpScatterElements, by(api.ModeAdd), "i:1,2,3 i:0,0 i:5,7", "i:13,2,3")
	gives(t, api.OpDepthToSpace, cut(2, api.ModeDCR), "i1.4.1.1:1,2,3,4", "i1.1.2.2:1,2,3,4")
}

// The document's own: a Reshape by a told list, a Gather of what is not there.
func TestDocumentsExamples(t *testing.T) {
	gives(t, api.OpReshape, plain, "i2.6:0,1,2,3,4,5,6,7,8,9,10,11 i:0,-1,3", "i2.2.3:0,1,2,3,4,5,6,7,8,9,10,11")
	gives(t, api.OpReshape, plain, "i2.6:0,1,2,3,4,5,6,7,8,9,10,11 i:5", "ErrShape")
	gives(t, api.OpGather, plain, "f:3F800000 i:1", "ErrIndex")
}
