package ewise_test

import (
	"cmp"
	"math"
	"math/big"
	"slices"

	"lattice/api"
	"lattice/elem"
	"lattice/infer"
	"lattice/tens"
)

// This file is the chapter written down a second time, by the machine's own floats and by whole numbers without an end; the tests hold the package against it.

// wantVals are tensors as constant values.
func wantVals(in []api.Tensor) []api.Val {
	var vals []api.Val
	for _, t := range in {
		v := api.Val{Type: t.Type, Dims: t.Dims, Const: true, T: t}
		if t.Type == api.None {
			v = api.Val{}
		}
		vals = append(vals, v)
	}
	return vals
}

// wantDo is P11.2.
func wantDo(op int, s api.Setting, in []api.Tensor) (api.Tensor, api.Errno) {
	if op < 1 || op > 44 {
		return api.Tensor{}, api.ErrArg
	}
	for _, t := range in {
		if t.Type == 0 {
			continue
		}
		if err := tens.Check(t); err != api.OK {
			return api.Tensor{}, err
		}
	}
	outs, err := infer.Node(op, s, wantVals(in), 1)
	if err != api.OK {
		return api.Tensor{}, err
	}
	out := api.Tensor{Type: outs[0].Type, Dims: slices.Clone(outs[0].Dims)}
	divided := false
	eachIndex(out.Dims, func(index []int) {
		var e [3]any
		for i, t := range in {
			e[i] = elementAt(t, index)
		}
		if divides := op == api.OpDiv || op == api.OpMod; divides && e[1] == any(int64(0)) {
			divided = true
			return
		}
		switch x := wantElement(op, s, e[0], e[1], e[2]).(type) {
		case float32:
			out.F = append(out.F, bitsOf(x))
		case int64:
			out.I = append(out.I, x)
		case bool:
			out.B = append(out.B, x)
		}
	})
	if divided {
		return api.Tensor{}, api.ErrDivide
	}
	return out, api.OK
}

// wantPart is P11.3.
func wantPart(op int, s api.Setting, in []api.Tensor, lo, hi int) (api.Tensor, api.Errno) {
	whole, err := wantDo(op, s, in)
	if err != api.OK {
		return api.Tensor{}, err
	}
	if lo < 0 || lo > hi || hi > len(whole.F)+len(whole.I)+len(whole.B) {
		return api.Tensor{}, api.ErrPlace
	}
	return cut(whole, lo, hi), api.OK
}

// cut are the elements of a tensor from lo on, below hi.
func cut(t api.Tensor, lo, hi int) api.Tensor {
	c := api.Tensor{Type: t.Type, Dims: []int{hi - lo}}
	switch t.Type {
	case api.Float:
		c.F = t.F[lo:hi]
	case api.Int:
		c.I = t.I[lo:hi]
	case api.Bool:
		c.B = t.B[lo:hi]
	}
	return c
}

// eachIndex tells the indices of all elements of a shape, in row order.
func eachIndex(dims []int, tell func(index []int)) {
	if slices.Contains(dims, 0) {
		return
	}
	index := make([]int, len(dims))
	for {
		tell(index)
		last := len(dims) - 1
		for last >= 0 && index[last] == dims[last]-1 {
			index[last] = 0
			last--
		}
		if last < 0 {
			return
		}
		index[last]++
	}
}

// elementAt is the element of a tensor that stands for the output's at those indices: a float32, an int64, a bool; nil, if the input is left out.
func elementAt(t api.Tensor, index []int) any {
	if t.Type == 0 {
		return nil
	}
	at := 0
	for i, d := range t.Dims {
		at *= d
		if d != 1 {
			at += index[len(index)-len(t.Dims)+i]
		}
	}
	switch t.Type {
	case 1:
		return math.Float32frombits(t.F[at])
	case 7:
		return t.I[at]
	}
	return t.B[at]
}

// bitsOf is a float's bits; all that are no numbers are one.
func bitsOf(f float32) uint32 {
	if f != f {
		return 0x7FC00000
	}
	return math.Float32bits(f)
}

// wantElement is a row of the chapter's table.
func wantElement(op int, s api.Setting, a, b, c any) any {
	switch op {
	case api.OpIdentity:
		return a
	case api.OpWhere:
		if a.(bool) {
			return b
		}
		return c
	case api.OpClip:
		if b != nil {
			a = wantElement(api.OpMax, s, a, b, nil)
		}
		if c != nil {
			a = wantElement(api.OpMin, s, a, c, nil)
		}
		return a
	}
	switch x := a.(type) {
	case float32:
		if b != nil {
			return wantOfFloats(op, x, b.(float32))
		}
		return wantOfFloat(op, s, x)
	case int64:
		if b != nil {
			return wantOfWholes(op, s, x, b.(int64))
		}
		return wantOfWhole(op, s, x)
	}
	switch op {
	case api.OpNot:
		return !a.(bool)
	case api.OpAnd:
		return a.(bool) && b.(bool)
	case api.OpOr:
		return a.(bool) || b.(bool)
	case api.OpXor:
		return a.(bool) != b.(bool)
	case api.OpEqual:
		return a.(bool) == b.(bool)
	}
	n := map[bool]int64{true: 1}[a.(bool)]
	return wantOfWhole(op, s, n)
}

// by is one of layer 3's functions, of the machine's floats.
func by(f func(uint32) uint32, a float32) float32 { return math.Float32frombits(f(bitsOf(a))) }

// wide is a function of 64 bits whose answer a float of 32 bits holds, or that is rounded to it as if at once.
func wide(f func(float64) float64, a float32) float32 { return float32(f(float64(a))) }

func wantOfFloat(op int, s api.Setting, a float32) any {
	alpha, beta := math.Float32frombits(s.Alpha), math.Float32frombits(s.Beta)
	low := math.Float32bits(a)>>31 == 1
	switch op {
	case api.OpAbs:
		return wide(math.Abs, a)
	case api.OpNeg:
		return -a
	case api.OpSign:
		if a != a {
			return a
		}
		return float32(cmp.Compare(a, 0))
	case api.OpFloor:
		return wide(math.Floor, a)
	case api.OpCeil:
		return wide(math.Ceil, a)
	case api.OpRound:
		return wide(math.RoundToEven, a)
	case api.OpSqrt:
		return wide(math.Sqrt, a)
	case api.OpReciprocal:
		return 1 / a
	case api.OpExp:
		return by(elem.Exp, a)
	case api.OpLog:
		return by(elem.Log, a)
	case api.OpSin:
		return by(elem.Sin, a)
	case api.OpCos:
		return by(elem.Cos, a)
	case api.OpTanh:
		return by(elem.Tanh, a)
	case api.OpErf:
		return by(elem.Erf, a)
	case api.OpSigmoid:
		return by(elem.Sigmoid, a)
	case api.OpSoftplus:
		return by(elem.Softplus, a)
	case api.OpRelu:
		return max(a, 0)
	case api.OpLeakyRelu:
		return wantOfFloats(api.OpPRelu, a, alpha)
	case api.OpElu:
		if a < 0 {
			return alpha * (by(elem.Exp, a) - 1)
		}
		return a
	case api.OpHardSigmoid:
		product := float32(alpha * a)
		return max(0, min(1, float32(product+beta)))
	case api.OpIsNaN:
		return a != a
	case api.OpIsInf:
		return math.IsInf(float64(a), 0) && (low && s.Low || !low && s.High)
	}
	return wantCastOfFloat(s.To, a)
}

func wantCastOfFloat(to int, a float32) any {
	switch {
	case to == 1:
		return a
	case to == 9:
		return !(a == 0)
	case a != a:
		return int64(0)
	case a >= 1<<63:
		return int64(math.MaxInt64)
	case a < -1<<63:
		return int64(math.MinInt64)
	}
	return int64(a)
}

func wantOfFloats(op int, a, b float32) any {
	switch op {
	case api.OpAdd:
		return a + b
	case api.OpSub:
		return a - b
	case api.OpMul:
		return a * b
	case api.OpDiv:
		return a / b
	case api.OpMod:
		return float32(math.Mod(float64(a), float64(b)))
	case api.OpPow:
		return math.Float32frombits(elem.Pow(bitsOf(a), bitsOf(b)))
	case api.OpMin:
		return min(a, b)
	case api.OpMax:
		return max(a, b)
	case api.OpPRelu:
		if a < 0 {
			return b * a
		}
		return a
	}
	return wantComparison(op, a, b)
}

func wantComparison[E cmp.Ordered](op int, a, b E) bool {
	switch op {
	case api.OpEqual:
		return a == b
	case api.OpLess:
		return a < b
	case api.OpLessOrEqual:
		return a <= b
	case api.OpGreater:
		return a > b
	}
	return a >= b
}

func wantOfWhole(op int, s api.Setting, a int64) any {
	n := big.NewInt(a)
	switch op {
	case api.OpAbs:
		return comeRound(n.Abs(n))
	case api.OpNeg:
		return comeRound(n.Neg(n))
	case api.OpSign:
		return int64(n.Sign())
	}
	switch s.To {
	case 1:
		return float32(a)
	case 7:
		return a
	}
	return a != 0
}

// comeRound is a number modulo 2^64.
func comeRound(n *big.Int) int64 {
	return int64(new(big.Int).And(n, new(big.Int).SetUint64(math.MaxUint64)).Uint64())
}

func wantOfWholes(op int, s api.Setting, a, b int64) any {
	x, y, z := big.NewInt(a), big.NewInt(b), new(big.Int)
	switch op {
	case api.OpAdd:
		return comeRound(z.Add(x, y))
	case api.OpSub:
		return comeRound(z.Sub(x, y))
	case api.OpMul:
		return comeRound(z.Mul(x, y))
	case api.OpDiv:
		return comeRound(z.Quo(x, y))
	case api.OpMod:
		if s.Fmod {
			return comeRound(z.Rem(x, y))
		}
		// The multiple is the greatest not above a; of a b below 0 that of -a is turned about.
		if b < 0 {
			z.Mod(x.Neg(x), y)
			return comeRound(z.Neg(z))
		}
		return comeRound(z.Mod(x, y))
	case api.OpMin:
		return min(a, b)
	case api.OpMax:
		return max(a, b)
	}
	return wantComparison(op, a, b)
}
