package moves_test

import (
	"fmt"
	"math"
	"testing"

	"lattice/api"
)

// P12.1: Slice of one dim, at all starts and ends about it, and at the greatest ones, by steps of both signs.
func TestSliceOfOneDim(t *testing.T) {
	numbers := []int{math.MinInt, math.MinInt + 1, -1 << 40, -5, -4, -3, -2, -1, 0, 1, 2, 3, 4, 5, 1 << 40, math.MaxInt - 1, math.MaxInt}
	steps := []int{math.MinInt, math.MinInt + 1, -5, -4, -3, -2, -1, 0, 1, 2, 3, 4, 5, math.MaxInt}
	for n := range 5 {
		for _, start := range numbers {
			for _, end := range numbers {
				for _, step := range steps {
					holds(t, node{op: api.OpSlice, in: []api.Tensor{counted(n), ints(start), ints(end), ints(0), ints(step)}, outs: 1})
				}
			}
		}
	}
}

// P12.1: Slice, what axes and steps say, and what is meant without them.
func TestSlice(t *testing.T) {
	x := "i2.3:1,2,3,4,5,6 "
	gives(t, api.OpSlice, plain, x+"i:1 i:2", "i1.3:4,5,6")
	gives(t, api.OpSlice, plain, x+"i:0,1 i:2,3", "i2.2:2,3,5,6")
	gives(t, api.OpSlice, plain, x+"i:0,1 i:2,3 -", "i2.2:2,3,5,6")
	gives(t, api.OpSlice, plain, x+"i:0,1 i:2,3 i:1,0", "i1.2:4,5")
	gives(t, api.OpSlice, plain, x+"i:0,1 i:2,3 i:-1,-2", "i1.2:4,5")
	gives(t, api.OpSlice, plain, x+"i:-1,-1 i:-9,-9 - i:-1,-2", "i2.2:6,4,3,1")
	gives(t, api.OpSlice, plain, x+"i:0 i:3 i:1 i:2", "i2.2:1,3,4,6")
	gives(t, api.OpSlice, plain, x+"i: i:", "i2.3:1,2,3,4,5,6")
	gives(t, api.OpSlice, plain, x+"i: i: i: i:", "i2.3:1,2,3,4,5,6")
	gives(t, api.OpSlice, plain, x+"i:2 i:1", "i0.3:")
	gives(t, api.OpSlice, plain, "f.:1 i: i:", "f.:00000001")
	gives(t, api.OpSlice, plain, "b:1,0,0,1 i:-2 i:9223372036854775807", "b:0,1")
	gives(t, api.OpSlice, plain, "i0.2: i:0 i:9", "i0.2:")
	gives(t, api.OpSlice, plain, "i0.2: i:0 i:-9 i:0 i:-1", "i0.2:")
	gives(t, api.OpSlice, plain, "i:0,1,2,3,4,5,6,7,8,9 i:-1 i:-11 i:0 i:-3", "i:9,6,3,0")
	gives(t, api.OpSlice, plain, "i:0,1,2,3 i:3 i:-1 i:0 i:-1", "i:")
	gives(t, api.OpSlice, plain, "i:0,1,2,3 i:-9223372036854775808 i:9223372036854775807 i:0 i:9223372036854775807", "i:0")
	gives(t, api.OpSlice, plain, "i:0,1,2,3 i:9223372036854775807 i:-9223372036854775808 i:0 i:-9223372036854775808", "i:3")
	gives(t, api.OpSlice, plain, x+"i:1 i:2 i:2", "ErrShape")
	gives(t, api.OpSlice, plain, x+"i:1,1 i:2,2 i:1,-1", "ErrShape")
	gives(t, api.OpSlice, plain, x+"i:1 i:2 i:0 i:0", "ErrShape")
	gives(t, api.OpSlice, plain, x+"i:1 i:2,2", "ErrShape")
	gives(t, api.OpSlice, plain, x+"i:1,1,1 i:2,2,2", "ErrShape")
	gives(t, api.OpSlice, plain, x+"b:1 i:2", "ErrType")
}

// P12.1: Gather along each axis; y's dims stand in the place of the axis.
func TestGather(t *testing.T) {
	x := "i2.3:1,2,3,4,5,6 "
	gives(t, api.OpGather, along(0), x+"i:1,0,-1", "i3.3:4,5,6,1,2,3,4,5,6")
	gives(t, api.OpGather, along(-2), x+"i:-2", "i1.3:1,2,3")
	gives(t, api.OpGather, along(1), x+"i2.2:0,1,2,-3", "i2.2.2:1,2,3,1,4,5,6,4")
	gives(t, api.OpGather, along(1), x+"i.:-1", "i:3,6")
	gives(t, api.OpGather, along(1), x+"i1.1:1", "i2.1.1:2,5")
	gives(t, api.OpGather, along(0), "b:1,0 i.:1", "b.:0")
	gives(t, api.OpGather, along(1), x+"i0.2:", "i2.0.2:")
	gives(t, api.OpGather, along(0), "f0.2: i:", "f0.2:")
	gives(t, api.OpGather, along(1), "i2.2.2:1,2,3,4,5,6,7,8 i:1,0", "i2.2.2:3,4,1,2,7,8,5,6")
	gives(t, api.OpGather, along(2), x+"i:0", "ErrAttr")
	gives(t, api.OpGather, along(0), "i.:1 i:0", "ErrAttr")
	gives(t, api.OpGather, along(0), x+"f:00000000", "ErrType")
	gives(t, api.OpGather, along(0), "i1.1.1.1.1:1 i1.1.1.1.1:0", "ErrSize")
}

// P12.1: GatherElements; y may be less than x, and along the axis greater.
func TestGatherElements(t *testing.T) {
	x := "i2.3:1,2,3,4,5,6 "
	gives(t, api.OpGatherElements, along(1), x+"i2.1:2,-3", "i2.1:3,4")
	gives(t, api.OpGatherElements, along(1), x+"i1.4:2,2,-1,0", "i1.4:3,3,3,1")
	gives(t, api.OpGatherElements, along(0), x+"i3.2:0,1,1,0,-1,-2", "i3.2:1,5,4,2,4,2")
	gives(t, api.OpGatherElements, along(-2), x+"i1.3:1,0,1", "i1.3:4,2,6")
	gives(t, api.OpGatherElements, along(0), "b:1,0 i:1,1,0", "b:0,0,1")
	gives(t, api.OpGatherElements, along(0), x+"i0.3:", "i0.3:")
	gives(t, api.OpGatherElements, along(0), "f0.3: i0.2:", "f0.2:")
	gives(t, api.OpGatherElements, along(1), x+"i3.1:0,0,0", "ErrShape")
	gives(t, api.OpGatherElements, along(1), x+"i:0", "ErrShape")
	gives(t, api.OpGatherElements, along(0), "i.:1 i.:0", "ErrAttr")
}

// P12.1: ScatterElements lays, adds, multiplies, one element after the other.
func TestScatterElements(t *testing.T) {
	x := "i2.3:1,2,3,4,5,6 "
	with := func(axis, mode int) api.Setting { return api.Setting{Axis: axis, Mode: mode} }
	for _, mode := range []int{0, api.ModeConstant, api.ModeEdge, api.ModeDCR, -1, 99} {
		gives(t, api.OpScatterElements, with(1, mode), x+"i1.2:-1,0 i1.2:8,9", "i2.3:9,2,8,4,5,6")
		gives(t, api.OpScatterElements, with(0, mode), x+"i2.2:1,0,1,0 i2.2:7,8,9,10", "i2.3:1,10,3,9,5,6")
		gives(t, api.OpScatterElements, with(0, mode), "f:1,2 i:1,1 f:3,7F800001", "f:00000001,7FC00000")
	}
	gives(t, api.OpScatterElements, with(1, api.ModeAdd), x+"i1.3:0,0,0 i1.3:1,1,1", "i2.3:4,2,3,4,5,6")
	gives(t, api.OpScatterElements, with(-1, api.ModeMul), x+"i2.2:0,0,-1,-1 i2.2:2,3,5,7", "i2.3:6,2,3,4,5,210")
	gives(t, api.OpScatterElements, with(0, api.ModeAdd), "i:9223372036854775807 i:0 i:1", "i:-9223372036854775808")
	gives(t, api.OpScatterElements, with(0, api.ModeMul), "i:-9223372036854775808 i:0 i:-1", "i:-9223372036854775808")
	gives(t, api.OpScatterElements, with(0, api.ModeMul), "i:4294967296 i:0 i:4294967297", "i:4294967296")
	gives(t, api.OpScatterElements, with(0, api.ModeNone), "b:1,0 i:1,0 b:1,0", "b:0,1")
	gives(t, api.OpScatterElements, with(0, api.ModeNone), "b:1,0 i: b:", "b:1,0")
	gives(t, api.OpScatterElements, with(0, api.ModeAdd), "i0.2: i0.1: i0.1:", "i0.2:")
	gives(t, api.OpScatterElements, with(0, api.ModeAdd), "b:1,0 i:1 b:1", "ErrType")
	gives(t, api.OpScatterElements, with(0, api.ModeNone), "i:1 i:0 b:1", "ErrType")
	gives(t, api.OpScatterElements, with(0, api.ModeNone), "i:1 i:0 i:1,2", "ErrShape")
	gives(t, api.OpScatterElements, with(1, api.ModeNone), "i:1 i:0 i:1", "ErrAttr")
}

// P12.1: floats are added and multiplied one after the other, rounded each time, the one that stood there ahead.
func TestScatterFloats(t *testing.T) {
	add, multiply := by(api.ModeAdd), by(api.ModeMul)
	// 1 and 2^-24, twice: each is lost; the two together would not be.
	gives(t, api.OpScatterElements, add, "f:3F800000 i:0,0 f:33800000,33800000", "f:3F800000")
	gives(t, api.OpScatterElements, add, "f:33800000 i:0,0 f:33800000,3F800000", "f:3F800001")
	gives(t, api.OpScatterElements, add, "f:80000000,80000000 i:0,1 f:80000000,00000000", "f:80000000,00000000")
	gives(t, api.OpScatterElements, add, "f:7F800000 i:0 f:FF800000", "f:7FC00000")
	gives(t, api.OpScatterElements, add, "f:FFC00001,3F800000 i:1 f:FF800001", "f:7FC00000,7FC00000")
	gives(t, api.OpScatterElements, multiply, "f:40000000,BF800000 i:0,1,0 f:40400000,00000000,3F000000", "f:40400000,80000000")
	gives(t, api.OpScatterElements, multiply, "f:00000001 i:0,0 f:3F000000,40000000", "f:00000000")
	gives(t, api.OpScatterElements, multiply, "f:7F800000 i:0 f:00000000", "f:7FC00000")
}

// P12.1: a number of y that x's axis does not have; behind all that infer refuses, and also where nothing would be moved.
func TestIndexOutOfRange(t *testing.T) {
	for n := range 4 {
		for _, number := range []int{math.MinInt, math.MinInt + 1, -1<<32 - 1, -1 << 32, -5, -4, -3, -2, -1, 0, 1, 2, 3, 4, 1 << 32, 1<<32 + 1, math.MaxInt} {
			for op, in := range map[int][]api.Tensor{api.OpGather: {counted(n), ints(number)}, api.OpGatherElements: {counted(n), ints(number)}, api.OpScatterElements: {counted(n), ints(number), ints(7)}} {
				err := holds(t, node{op: op, in: in, outs: 1})
				if within := number >= -n && number < n; within != (err == api.OK) || !within && err != api.ErrIndex {
					t.Errorf("operator %d, %d of %d: the second writing has %v", op, number, n, err)
				}
			}
		}
	}
	for _, op := range []int{api.OpGather, api.OpGatherElements, api.OpScatterElements} {
		third := ""
		if op == api.OpScatterElements {
			third = " i:5,6"
		}
		gives(t, op, plain, "i:1,2 i:0,2"+third, "ErrIndex")
		gives(t, op, plain, "i:1,2 i:-3,0"+third, "ErrIndex")
		gives(t, op, along(1), "i:1,2 i:0,2"+third, "ErrAttr")
		gives(t, op, plain, "i:1,2 i:0,2 i:0 i:0", "ErrArg")
		gives(t, op, plain, "i:1,2 f:00000000,00000007"+third, "ErrType")
	}
	gives(t, api.OpGather, along(1), "i0.2: i:2", "ErrIndex")
	gives(t, api.OpGather, along(0), "i2.0: i:2", "ErrIndex")
	gives(t, api.OpGather, along(1), "i2.0: i:0", "ErrIndex")
	gives(t, api.OpGather, along(1), "i0.2: i:1", "i0.1:")
	gives(t, api.OpGatherElements, along(1), "i1.2:1,2 i2.1:5,5", "ErrShape")
	gives(t, api.OpScatterElements, along(0), "i:1,2 i:5 i:1,2", "ErrShape")
	// The axis counts, not the other dims.
	for axis, most := range []int{1, 2} {
		gives(t, api.OpGatherElements, along(axis), fmt.Sprintf("i2.3:1,2,3,4,5,6 i1.1:%d", most), []string{"i1.1:4", "i1.1:3"}[axis])
		gives(t, api.OpGatherElements, along(axis), fmt.Sprintf("i2.3:1,2,3,4,5,6 i1.1:%d", most+1), "ErrIndex")
	}
}
