package moves_test

import (
	"testing"

	"lattice/api"
)

// order is the setting of a Transpose.
func order(perm ...int) api.Setting { return api.Setting{Perm: perm, HasPerm: true} }

// P12.1: Transpose, also of no dims, of none alike, and without elements.
func TestTranspose(t *testing.T) {
	x := " i2.3.2:0,1,2,3,4,5,6,7,8,9,10,11"
	gives(t, api.OpTranspose, plain, x, "i2.3.2:0,6,2,8,4,10,1,7,3,9,5,11")
	gives(t, api.OpTranspose, order(2, 1, 0), x, "i2.3.2:0,6,2,8,4,10,1,7,3,9,5,11")
	gives(t, api.OpTranspose, order(0, 1, 2), x, "i2.3.2:0,1,2,3,4,5,6,7,8,9,10,11")
	gives(t, api.OpTranspose, order(1, 0, 2), x, "i3.2.2:0,1,6,7,2,3,8,9,4,5,10,11")
	gives(t, api.OpTranspose, order(0, 2, 1), x, "i2.2.3:0,2,4,1,3,5,6,8,10,7,9,11")
	gives(t, api.OpTranspose, order(1, 2, 0), x, "i3.2.2:0,6,1,7,2,8,3,9,4,10,5,11")
	gives(t, api.OpTranspose, order(2, 0, 1), x, "i2.2.3:0,2,4,6,8,10,1,3,5,7,9,11")
	gives(t, api.OpTranspose, plain, "f.:3F800000", "f.:3F800000")
	gives(t, api.OpTranspose, order(), "b.:1", "b.:1")
	gives(t, api.OpTranspose, plain, "b:1,0", "b:1,0")
	gives(t, api.OpTranspose, plain, "f2.0.3:", "f3.0.2:")
	gives(t, api.OpTranspose, plain, "f1.1.1.1.1.1.2.2:1,2,3,4", "f2.2.1.1.1.1.1.1:00000001,00000003,00000002,00000004")
	// An order that is said counts only if the setting says that there is one.
	gives(t, api.OpTranspose, api.Setting{Perm: []int{0, 1}}, "i2.2:1,2,3,4", "i2.2:1,3,2,4")
	gives(t, api.OpTranspose, api.Setting{Perm: []int{9}}, "i2.2:1,2,3,4", "i2.2:1,3,2,4")
	for _, perm := range [][]int{{}, {0}, {0, 0}, {1, 1}, {0, 2}, {-1, 0}, {0, 1, 2}} {
		gives(t, api.OpTranspose, order(perm...), "i2.2:1,2,3,4", "ErrAttr")
	}
}

// P12.1: what keeps all offsets.
func TestSameOffsets(t *testing.T) {
	gives(t, api.OpReshape, plain, "i2.3:1,2,3,4,5,6 i:3,2", "i3.2:1,2,3,4,5,6")
	gives(t, api.OpReshape, plain, "i2.3:1,2,3,4,5,6 i:-1", "i:1,2,3,4,5,6")
	gives(t, api.OpReshape, plain, "i2.3:1,2,3,4,5,6 i:1,0,2,-1", "i1.3.2.1:1,2,3,4,5,6")
	gives(t, api.OpReshape, plain, "b1.1:1 i:", "b.:1")
	gives(t, api.OpReshape, plain, "f.:40000000 i:1,1", "f1.1:40000000")
	gives(t, api.OpReshape, plain, "i2.0: i:0,0,7", "i2.0.7:")
	gives(t, api.OpReshape, api.Setting{Zero: true}, "i2.0: i:7,0", "i7.0:")
	gives(t, api.OpReshape, plain, "i2.2:1,2,3,4 i:3", "ErrShape")
	gives(t, api.OpFlatten, along(1), "i2.3:1,2,3,4,5,6", "i2.3:1,2,3,4,5,6")
	gives(t, api.OpFlatten, along(2), "i2.3:1,2,3,4,5,6", "i6.1:1,2,3,4,5,6")
	gives(t, api.OpFlatten, along(-1), "i2.1.3:1,2,3,4,5,6", "i2.3:1,2,3,4,5,6")
	gives(t, api.OpFlatten, plain, "i2.3:1,2,3,4,5,6", "i1.6:1,2,3,4,5,6")
	gives(t, api.OpFlatten, plain, "f.:1", "f1.1:00000001")
	gives(t, api.OpFlatten, along(1), "b0.3:", "b0.3:")
	gives(t, api.OpFlatten, along(3), "i2.3:1,2,3,4,5,6", "ErrAttr")
	gives(t, api.OpSqueeze, plain, "i1.2.1:1,2", "i:1,2")
	gives(t, api.OpSqueeze, plain, "i1.2.1:1,2 -", "i:1,2")
	gives(t, api.OpSqueeze, plain, "i1.2.1:1,2 i:", "i1.2.1:1,2")
	gives(t, api.OpSqueeze, plain, "i1.2.1:1,2 i:-1", "i1.2:1,2")
	gives(t, api.OpSqueeze, plain, "b1.1:1 i:1,0", "b.:1")
	gives(t, api.OpSqueeze, plain, "i1.2.1:1,2 i:1", "ErrShape")
	gives(t, api.OpUnsqueeze, plain, "i2:1,2 i:0,-1", "i1.2.1:1,2")
	gives(t, api.OpUnsqueeze, plain, "f.:7F800001 i:0", "f:7FC00000")
	gives(t, api.OpUnsqueeze, plain, "b3.0: i:1", "b3.1.0:")
	gives(t, api.OpUnsqueeze, plain, "i2:1,2 i:3", "ErrShape")
}

// P12.1: DepthToSpace by both modes, of more than one channel; a mode of another name counts as DCR.
func TestDepthToSpace(t *testing.T) {
	eight := "i1.8.1.2:0,1,2,3,4,5,6,7,8,9,10,11,12,13,14,15"
	byDepth := "i1.2.2.4:0,4,1,5,8,12,9,13,2,6,3,7,10,14,11,15"
	gives(t, api.OpDepthToSpace, cut(2, api.ModeDCR), eight, byDepth)
	gives(t, api.OpDepthToSpace, cut(2, api.ModeCRD), eight, "i1.2.2.4:0,2,1,3,4,6,5,7,8,10,9,11,12,14,13,15")
	for _, mode := range []int{-1, 0, 1, 4, 5, 8, 99} {
		gives(t, api.OpDepthToSpace, cut(2, mode), eight, byDepth)
	}
	gives(t, api.OpDepthToSpace, cut(1, api.ModeCRD), "b2.1.1.2:1,0,1,1", "b2.1.1.2:1,0,1,1")
	gives(t, api.OpDepthToSpace, cut(3, api.ModeCRD), "i1.9.1.1:0,1,2,3,4,5,6,7,8", "i1.1.3.3:0,1,2,3,4,5,6,7,8")
	gives(t, api.OpDepthToSpace, cut(2, api.ModeDCR), "f2.4.1.1:1,2,3,4,5,6,7,8", "f2.1.2.2:00000001,00000002,00000003,00000004,00000005,00000006,00000007,00000008")
	gives(t, api.OpDepthToSpace, cut(2, api.ModeDCR), "f1.0.3.3:", "f1.0.6.6:")
	gives(t, api.OpDepthToSpace, cut(4096, api.ModeDCR), "f1.0.1.1:", "f1.0.4096.4096:")
	gives(t, api.OpDepthToSpace, cut(2, api.ModeDCR), "i1.2.1.1:0,1", "ErrShape")
	gives(t, api.OpDepthToSpace, cut(0, api.ModeDCR), "i1.4.1.1:0,1,2,3", "ErrAttr")
	gives(t, api.OpDepthToSpace, cut(4097, api.ModeDCR), "i1.4.1.1:0,1,2,3", "ErrAttr")
	gives(t, api.OpDepthToSpace, cut(1, api.ModeDCR), "i4.1.1:0,1,2,3", "ErrShape")
}

// P12.1: SpaceToDepth, whatever the mode.
func TestSpaceToDepth(t *testing.T) {
	for _, mode := range []int{0, api.ModeDCR, api.ModeCRD, -5} {
		gives(t, api.OpSpaceToDepth, cut(2, mode), "i1.2.2.4:0,1,2,3,4,5,6,7,8,9,10,11,12,13,14,15", "i1.8.1.2:0,2,8,10,1,3,9,11,4,6,12,14,5,7,13,15")
	}
	gives(t, api.OpSpaceToDepth, cut(1, 0), "b1.1.1.2:1,0", "b1.1.1.2:1,0")
	gives(t, api.OpSpaceToDepth, cut(3, 0), "f1.1.3.3:1,2,3,4,5,6,7,8,9", "f1.9.1.1:00000001,00000002,00000003,00000004,00000005,00000006,00000007,00000008,00000009")
	gives(t, api.OpSpaceToDepth, cut(2, 0), "i1.0.2.2:", "i1.0.1.1:")
	gives(t, api.OpSpaceToDepth, cut(2, 0), "i1.1.2.0:", "i1.4.1.0:")
	gives(t, api.OpSpaceToDepth, cut(2, 0), "i1.1.2.3:0,1,2,3,4,5", "ErrShape")
	gives(t, api.OpSpaceToDepth, cut(-1, 0), "i1.1.1.1:0", "ErrAttr")
}
