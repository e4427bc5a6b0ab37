package ewise

import (
	"lattice/api"
	"lattice/elem"
	"lattice/round"
	"lattice/soft"
)

// row is the operator's.
func (o operation) row() row {
	switch o.op {
	case api.OpAbs, api.OpNeg, api.OpSign:
		return signed(o.op)
	case api.OpNot, api.OpAnd, api.OpOr, api.OpXor:
		return row{truth: logical(o.op)}
	case api.OpIsNaN, api.OpIsInf:
		return row{float: floatTest(o.kindTest())}
	case api.OpAdd, api.OpSub, api.OpMul, api.OpDiv, api.OpMod, api.OpPow, api.OpMin, api.OpMax, api.OpPRelu:
		return o.reckoned()
	case api.OpEqual, api.OpLess, api.OpLessOrEqual, api.OpGreater, api.OpGreaterOrEqual:
		return compared(o.op)
	case api.OpIdentity:
		return row{same, same, same}
	case api.OpWhere:
		return row{truth: chosen}
	case api.OpClip:
		return row{float: o.clipped(float2(soft.Max), float2(soft.Min)), whole: o.clipped(whole2(greater), whole2(lesser))}
	case api.OpCast:
		return castTo(o.s.To)
	}
	return row{float: float1(o.curve())}
}

// signed are the operators that look at a sign.
func signed(op int) row {
	switch op {
	case api.OpAbs:
		return row{float: float1(soft.Abs), whole: whole1(amount)}
	case api.OpNeg:
		return row{float: float1(soft.Neg), whole: whole1(turned)}
	}
	return row{float: float1(floatSign), whole: whole1(wholeSign)}
}

// curve is what is done to one float alone; Alpha and Beta are the setting's.
func (o operation) curve() func(a uint32) uint32 {
	alpha, beta := o.s.Alpha, o.s.Beta
	switch o.op {
	case api.OpFloor:
		return round.Floor
	case api.OpCeil:
		return round.Ceil
	case api.OpRound:
		return round.Even
	case api.OpSqrt:
		return round.Sqrt
	case api.OpReciprocal:
		return func(a uint32) uint32 { return soft.Div(api.FloatOne, a) }
	case api.OpExp:
		return elem.Exp
	case api.OpLog:
		return elem.Log
	case api.OpSin:
		return elem.Sin
	case api.OpCos:
		return elem.Cos
	case api.OpTanh:
		return elem.Tanh
	case api.OpErf:
		return elem.Erf
	case api.OpSigmoid:
		return elem.Sigmoid
	case api.OpRelu:
		return func(a uint32) uint32 { return soft.Max(a, 0) }
	case api.OpLeakyRelu:
		return func(a uint32) uint32 { return leaky(a, alpha) }
	case api.OpElu:
		return func(a uint32) uint32 { return elu(a, alpha) }
	case api.OpHardSigmoid:
		return func(a uint32) uint32 {
			return soft.Max(0, soft.Min(api.FloatOne, soft.Add(soft.Mul(alpha, a), beta)))
		}
	}
	return elem.Softplus
}

// logical are the operators of truths.
func logical(op int) does {
	switch op {
	case api.OpAnd:
		return truth2(func(a, b bool) bool { return a && b })
	case api.OpOr:
		return truth2(func(a, b bool) bool { return a || b })
	case api.OpXor:
		return truth2(func(a, b bool) bool { return a != b })
	}
	return func(a, _, _ element) element { return element{truth: !a.truth} }
}

// kindTest asks a float, its first, of which kind it is.
func (o operation) kindTest() func(a, _ uint32) bool {
	low, high := o.s.Low, o.s.High
	if o.op == api.OpIsNaN {
		return func(a, _ uint32) bool { return soft.NaN(a) }
	}
	return func(a, _ uint32) bool {
		if isLow(a) {
			return soft.Inf(a) && low
		}
		return soft.Inf(a) && high
	}
}

// reckoned are the operators that make a number of two.
func (o operation) reckoned() row {
	switch o.op {
	case api.OpAdd:
		return row{float: float2(soft.Add), whole: whole2(func(a, b int64) int64 { return a + b })}
	case api.OpSub:
		return row{float: float2(soft.Sub), whole: whole2(func(a, b int64) int64 { return a - b })}
	case api.OpMul:
		return row{float: float2(soft.Mul), whole: whole2(func(a, b int64) int64 { return a * b })}
	case api.OpDiv:
		return row{float: float2(soft.Div), whole: whole2(func(a, b int64) int64 { return a / b })}
	case api.OpMod:
		return row{float: float2(floatRest), whole: whole2(wholeMod(o.s.Fmod))}
	case api.OpPow:
		return row{float: float2(elem.Pow)}
	case api.OpMin:
		return row{float: float2(soft.Min), whole: whole2(lesser)}
	case api.OpMax:
		return row{float: float2(soft.Max), whole: whole2(greater)}
	}
	return row{float: float2(leaky)}
}

// compared are the operators that hold two elements against each other.
func compared(op int) row {
	switch op {
	case api.OpEqual:
		return row{
			float: floatTest(soft.Equal),
			whole: wholeTest(func(a, b int64) bool { return a == b }),
			truth: truth2(func(a, b bool) bool { return a == b }),
		}
	case api.OpLess:
		return row{float: floatTest(soft.Less), whole: wholeTest(func(a, b int64) bool { return a < b })}
	case api.OpLessOrEqual:
		return row{float: floatTest(atMost), whole: wholeTest(func(a, b int64) bool { return a <= b })}
	case api.OpGreater:
		return row{
			float: floatTest(func(a, b uint32) bool { return soft.Less(b, a) }),
			whole: wholeTest(func(a, b int64) bool { return a > b }),
		}
	}
	return row{
		float: floatTest(func(a, b uint32) bool { return atMost(b, a) }),
		whole: wholeTest(func(a, b int64) bool { return a >= b }),
	}
}

func same(a, _, _ element) element { return a }

// chosen is what a Where's truth says.
func chosen(a, b, c element) element {
	if a.truth {
		return b
	}
	return c
}

// clipped is brought above b and then below c, as far as they are there.
func (o operation) clipped(most, least does) does {
	low, high := o.has(1), o.has(2)
	return func(a, b, c element) element {
		if low {
			a = most(a, b, element{})
		}
		if high {
			a = least(a, c, element{})
		}
		return a
	}
}

// castTo is a row that makes elements of that type.
func castTo(kind int) row {
	switch kind {
	case api.Float:
		return row{
			float: same,
			whole: func(a, _, _ element) element { return element{float: round.FromInt(a.whole)} },
			truth: func(a, _, _ element) element { return chosen(a, element{float: api.FloatOne}, element{}) },
		}
	case api.Int:
		return row{
			float: func(a, _, _ element) element { return element{whole: round.ToInt(a.float)} },
			whole: same,
			truth: func(a, _, _ element) element { return chosen(a, element{whole: 1}, element{}) },
		}
	}
	return row{
		float: func(a, _, _ element) element { return element{truth: soft.Abs(a.float) != 0} },
		whole: func(a, _, _ element) element { return element{truth: a.whole != 0} },
		truth: same,
	}
}
