// Package seeds tells numbers for the tests to try: they look like chance, and are the same each time.
package seeds

// Seed is where a row of numbers stands; each seed has a row of its own.
type Seed uint64

// Next is the row's next number (splitmix64).
func (s *Seed) Next() uint64 {
	*s += 0x9E3779B97F4A7C15
	z := uint64(*s)
	z = (z ^ z>>30) * 0xBF58476D1CE4E5B9
	z = (z ^ z>>27) * 0x94D049BB133111EB
	return z ^ z>>31
}

// Below is the next number from 0 to n - 1; of n below 1 it is 0.
func (s *Seed) Below(n int) int {
	if n < 1 {
		return 0
	}
	return int(s.Next() % uint64(n))
}
