package moves_test

import (
	"fmt"
	"math"
	"slices"
	"strings"
	"testing"

	"lattice/api"
)

// P12.1: Shape from each place to each, counted from both ends.
func TestShape(t *testing.T) {
	dims := []int{2, 0, 5}
	numbers := []int{math.MinInt, math.MinInt + 1, -5, -4, -3, -2, -1, 0, 1, 2, 3, 4, 5, math.MaxInt}
	hold := func(n int) int {
		if n < 0 {
			n += 3
		}
		return min(max(n, 0), 3)
	}
	for _, start := range numbers {
		for _, end := range numbers {
			some := dims[hold(start):max(hold(start), hold(end))]
			list := strings.ReplaceAll(strings.Trim(fmt.Sprint(some), "[]"), " ", ",")
			gives(t, api.OpShape, api.Setting{Start: start, End: end, HasEnd: true}, "f2.0.5:", "i:"+list)
		}
		list := strings.ReplaceAll(strings.Trim(fmt.Sprint(dims[hold(start):]), "[]"), " ", ",")
		gives(t, api.OpShape, api.Setting{Start: start, End: 1}, "b2.0.5:", "i:"+list)
	}
	gives(t, api.OpShape, plain, "f.:1", "i:")
	gives(t, api.OpShape, api.Setting{Start: -1}, "f.:1", "i:")
	gives(t, api.OpShape, plain, "b:1,0", "i:2")
	gives(t, api.OpShape, plain, "i1.1.1.1.1.1.1.2:1,2", "i:1,1,1,1,1,1,1,2")
	gives(t, api.OpShape, plain, "i:1 i:1", "ErrArg")
}

// P12.1: Size counts the elements of any type.
func TestSize(t *testing.T) {
	gives(t, api.OpSize, plain, "i2.3:1,2,3,4,5,6", "i.:6")
	gives(t, api.OpSize, plain, "f.:1", "i.:1")
	gives(t, api.OpSize, plain, "b4.0.2:", "i.:0")
	gives(t, api.OpSize, plain, "f4096.4096.0:", "i.:0")
	answers(t, api.OpSize, plain, []api.Tensor{counted(64, 64)}, 1, "i.:4096")
	answers(t, api.OpSize, plain, []api.Tensor{{Type: api.Int, Dims: []int{64, 65}, I: make([]int64, 64*65)}}, 1, "ErrSize")
}

// P12.1: ConstantOfShape of each type; the element is taken as an input's.
func TestConstantOfShape(t *testing.T) {
	of := func(word string) api.Setting { return api.Setting{Value: tensor(word)} }
	gives(t, api.OpConstantOfShape, of("f:00000000"), "i:2,2", "f2.2:00000000,00000000,00000000,00000000")
	gives(t, api.OpConstantOfShape, of("i:-7"), "i:3", "i:-7,-7,-7")
	gives(t, api.OpConstantOfShape, of("b1.1.1:1"), "i:1,2", "b1.2:1,1")
	gives(t, api.OpConstantOfShape, of("i.:5"), "i:", "i.:5")
	gives(t, api.OpConstantOfShape, of("i.:5"), "i:4,0", "i4.0:")
	gives(t, api.OpConstantOfShape, of("f:80000000"), "i:1", "f:80000000")
	gives(t, api.OpConstantOfShape, of("f:FF800001"), "i:2", "f:7FC00000,7FC00000")
	gives(t, api.OpConstantOfShape, of("i:5"), "i:4096", wordOf(ints(slices.Repeat([]int{5}, 4096)...)))
	gives(t, api.OpConstantOfShape, of("i:5"), "i:4097", "ErrSize")
	gives(t, api.OpConstantOfShape, of("i:5"), "i:64,65", "ErrSize")
	gives(t, api.OpConstantOfShape, of("i:5"), "i:-1", "ErrShape")
	gives(t, api.OpConstantOfShape, of("i:5"), "i.:1", "ErrShape")
	gives(t, api.OpConstantOfShape, of("i:5"), "f:00000001", "ErrType")
	gives(t, api.OpConstantOfShape, of("i:5,6"), "i:1", "ErrAttr")
	gives(t, api.OpConstantOfShape, plain, "i:1", "ErrAttr")
	gives(t, api.OpConstantOfShape, of("i:"), "i:1", "ErrAttr")
}
