package elem

import (
	"lattice/api"
	"lattice/round"
	"lattice/soft"
)

const (
	tanhSmall = 0x39800000 // below it tanh x is x, but for less than half a last bit
	erfMost   = 0x40800000 // beyond it erf x is 1, but for less than half a last bit
	erfScale  = 0x3EA7BA05
)

// Tanh is the hyperbolic tangent.
func Tanh(x uint32) uint32 {
	a := soft.Abs(x)
	switch {
	case soft.NaN(x):
		return api.FloatNaN
	case soft.Less(a, tanhSmall):
		return x
	}
	t := soft.Sub(one, soft.Div(two, soft.Add(Exp(soft.Mul(two, a)), one)))
	return withSign(x, held(0, one, t))
}

// Erf is the error function.
func Erf(x uint32) uint32 {
	a := soft.Abs(x)
	switch {
	case soft.NaN(x):
		return api.FloatNaN
	case nought(x):
		return x
	case soft.Less(erfMost, a):
		return withSign(x, one)
	}
	t := soft.Div(one, round.Fma(erfScale, a, one))
	p := soft.Mul(t, row(t, 0x3F87DC22, 0xBFBA00E3, 0x3FB5F0E3, 0xBE91A98E, 0x3E827906))
	r := round.Fma(soft.Neg(p), Exp(soft.Neg(soft.Mul(a, a))), one)
	return withSign(x, held(0, one, r))
}

// Sigmoid is the logistic function.
func Sigmoid(x uint32) uint32 {
	if soft.NaN(x) {
		return api.FloatNaN
	}
	return held(0, one, soft.Div(one, soft.Add(one, Exp(soft.Neg(x)))))
}

// Softplus is the logarithm of 1 and e to the power of x.
func Softplus(x uint32) uint32 {
	if soft.NaN(x) {
		return api.FloatNaN
	}
	// The exponential of what is below 0 is at most 1, so that nothing is lost where x is great.
	return soft.Add(soft.Max(x, 0), Log(soft.Add(one, Exp(soft.Neg(soft.Abs(x))))))
}
