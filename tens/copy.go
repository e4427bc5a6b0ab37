package tens

import (
	"slices"

	"lattice/api"
	"lattice/soft"
)

// Copy is another one of the same.
func Copy(t api.Tensor) api.Tensor {
	return api.Tensor{Type: t.Type, Dims: copied(t.Dims), F: copied(t.F), I: copied(t.I), B: copied(t.B)}
}

// Canon is a tensor whose no numbers are the one that is told.
func Canon(t api.Tensor) api.Tensor {
	c := Copy(t)
	for i, f := range c.F {
		c.F[i] = soft.Canon(f)
	}
	return c
}

// Same: are they, bit for bit?
func Same(a, b api.Tensor) bool {
	return a.Type == b.Type && slices.Equal(a.Dims, b.Dims) &&
		slices.Equal(a.F, b.F) && slices.Equal(a.I, b.I) && slices.Equal(a.B, b.B)
}

// copied is a list in memory of its own, also where it is empty but has room left.
func copied[E any](list []E) []E {
	c := make([]E, len(list))
	copy(c, list)
	return c
}
