package soft

import "lattice/api"

// Less: is a less than b?
func Less(a, b uint32) bool { return !NaN(a) && !NaN(b) && place(a) < place(b) }

// Equal: are they one number?
func Equal(a, b uint32) bool { return !NaN(a) && !NaN(b) && place(a) == place(b) }

// Min is the lesser one.
func Min(a, b uint32) uint32 {
	switch {
	case NaN(a) || NaN(b):
		return api.FloatNaN
	case Less(a, b):
		return a
	case Less(b, a):
		return b
	}
	// They are the same bits or two noughts: the sign stands if one has it.
	return a | b
}

// Max is the greater one.
func Max(a, b uint32) uint32 {
	switch {
	case NaN(a) || NaN(b):
		return api.FloatNaN
	case Less(a, b):
		return b
	case Less(b, a):
		return a
	}
	// They are the same bits or two noughts: the sign stands if both have it.
	return a & b
}

// place counts the floats from the noughts on, so that the order of places is that of values.
func place(a uint32) int64 {
	if below(a) {
		return -int64(Abs(a))
	}
	return int64(a)
}
