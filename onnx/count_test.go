package onnx_test

import (
	"math"
	"slices"
	"testing"

	"lattice/api"
	"lattice/onnx"
	"lattice/seeds"
)

func wantCounted(t *testing.T, dims []int, want int, wantErr api.Errno) {
	t.Helper()
	if n, err := onnx.Count(dims); n != want || err != wantErr {
		t.Errorf("Count %v: %d, %v; want %d, %v", dims, n, err, want, wantErr)
	}
}

// P7.2: the product, 1 of none and 0 if one is 0, up to each limit.
func TestCount(t *testing.T) {
	for _, c := range []struct {
		dims []int
		want int
	}{
		{dims(), 1}, {dims(1), 1}, {dims(0), 0}, {dims(7), 7}, {dims(2, 3), 6}, {dims(2, 3, 4), 24}, {dims(4096), 4096}, {dims(64, 64), 4096}, {dims(4095), 4095}, {dims(63, 65), 4095},
		{many(8, 1), 1}, {many(8, 2), 256}, {dims(4, 4, 4, 4, 4, 2, 2, 1), 4096}, {dims(1, 1, 1, 1, 1, 1, 1, 4096), 4096}, {many(8, 0), 0},
		{dims(0, 5000), 0}, {dims(5000, 0), 0}, {dims(math.MaxInt, 0), 0}, {dims(math.MaxInt, math.MaxInt, 0), 0}, {dims(0, math.MaxInt), 0}, {dims(1<<32, 1<<32, 0), 0}, {dims(4097, 2, 0, 9), 0},
	} {
		wantCounted(t, c.dims, c.want, api.OK)
	}
}

// P7.2: a dim below 0 comes ahead of what is too much, wherever it stands.
func TestCountRefuses(t *testing.T) {
	for _, d := range [][]int{
		{-1}, {0, -1}, {-1, 0}, {-1, -1}, {5000, -1}, {-1, 5000}, {math.MinInt}, {math.MinInt, math.MinInt}, {math.MaxInt, math.MinInt}, {1, 2, -3},
		append(many(8, 1), -1), append(many(20, 0), -1), append(dims(-1), many(20, 9)...), append(many(7, 1), -1),
	} {
		wantCounted(t, d, 0, api.ErrArg)
	}
	for _, d := range [][]int{
		{4097}, {2, 2049}, {2049, 2}, {64, 65}, {4096, 2}, {math.MaxInt}, {1 << 32, 1 << 32}, {1 << 62, 4}, {1 << 62, 2, 2}, {1 << 61, 8}, {3, math.MaxInt}, {math.MaxInt, 3}, {1 << 63 / 3, 3, 2},
		many(9, 1), many(9, 0), append(many(8, 1), 0), many(9, 2), many(1000, 1), many(8, 3), many(8, math.MaxInt), append(dims(0), many(8, 1)...),
	} {
		wantCounted(t, d, 0, api.ErrLimit)
	}
}

// P7.2: any dims, held against a product that may be as great as it likes.
func TestCountOfAny(t *testing.T) {
	s := seeds.Seed(21)
	some := dims(-1, 0, 0, 1, 1, 2, 3, 4, 8, 16, 64, 4096, 4097, 1<<31, 1<<32, 1<<62, math.MaxInt, math.MinInt)
	for range 50000 {
		list := make([]int, s.Below(11))
		for i := range list {
			list[i] = some[1+s.Below(len(some)-1-s.Below(len(some)-2))]
			if s.Below(40) == 0 {
				list[i] = some[s.Below(len(some))]
			}
		}
		handed := slices.Clone(list)
		want, err := wantCount(list)
		wantCounted(t, list, want, err)
		if !slices.Equal(list, handed) {
			t.Fatalf("%v became %v", handed, list)
		}
	}
}
