package ewise

import "cmp"

// amount is a without its sign; the least one of all comes round to itself.
func amount(a int64) int64 { return max(a, -a) }

func turned(a int64) int64 { return -a }

// wholeSign is -1, 0 or 1.
func wholeSign(a int64) int64 { return int64(cmp.Compare(a, 0)) }

func lesser(a, b int64) int64 { return min(a, b) }

func greater(a, b int64) int64 { return max(a, b) }

// wholeMod is what a division leaves: of a's sign, or of b's.
func wholeMod(ofA bool) func(a, b int64) int64 {
	return func(a, b int64) int64 {
		rest := a % b
		if !ofA && rest != 0 && rest < 0 != (b < 0) {
			return rest + b
		}
		return rest
	}
}
