package seeds_test

import (
	"testing"

	"lattice/seeds"
)

// The rows are those of splitmix64, so that a test tries the same each time.
func TestSameEachTime(t *testing.T) {
	s := seeds.Seed(0)
	for i, want := range []uint64{0xE220A8397B1DCDAF, 0x6E789E6AA1B965F4, 0x06C45D188009454F} {
		if got := s.Next(); got != want {
			t.Errorf("number %d: %016X, want %016X", i, got, want)
		}
	}
}

func TestBelow(t *testing.T) {
	s := seeds.Seed(1)
	seen := [10]int{}
	for range 1000 {
		seen[s.Below(len(seen))]++
	}
	for n, times := range seen {
		if times < 50 {
			t.Errorf("%d came %d times", n, times)
		}
	}
	for _, n := range []int{0, -1, 1} {
		if got := s.Below(n); got != 0 {
			t.Errorf("Below(%d): %d", n, got)
		}
	}
}
