package ewise_test

import (
	"slices"
	"testing"

	"lattice/api"
	"lattice/seeds"
)

// P11.2: signs of whole numbers; the least one of all comes round to itself.
func TestSignsOfWholes(t *testing.T) {
	const in = "i:-9223372036854775808,-9223372036854775807,-5,-1,0,1,5,9223372036854775807"
	gives(t, api.OpAbs, plain, in, "i:-9223372036854775808,9223372036854775807,5,1,0,1,5,9223372036854775807")
	gives(t, api.OpNeg, plain, in, "i:-9223372036854775808,9223372036854775807,5,1,0,-1,-5,-9223372036854775807")
	gives(t, api.OpSign, plain, in, "i:-1,-1,-1,-1,0,1,1,1")
	gives(t, api.OpIdentity, plain, in, in)
}

// P11.2: whole numbers come round.
func TestTwoWholes(t *testing.T) {
	gives(t, api.OpAdd, plain, "i:2,9223372036854775807,-9223372036854775808 i:3,1,-1", "i:5,-9223372036854775808,9223372036854775807")
	gives(t, api.OpSub, plain, "i:2,-9223372036854775808,0 i:3,1,-9223372036854775808", "i:-1,9223372036854775807,-9223372036854775808")
	gives(t, api.OpMul, plain, "i:-2,4294967296,-9223372036854775808,3037000500 i:3,4294967296,-1,3037000500", "i:-6,0,-9223372036854775808,-9223372036709301616")
	gives(t, api.OpMin, plain, "i:-2,3,-9223372036854775808 i:3,-2,9223372036854775807", "i:-2,-2,-9223372036854775808")
	gives(t, api.OpMax, plain, "i:-2,3,-9223372036854775808 i:3,-2,9223372036854775807", "i:3,3,9223372036854775807")
}

// P11.2: Div without its broken part; Mod of b's sign, with Fmod of a's.
func TestDivided(t *testing.T) {
	const in = "i:7,-7,7,-7,6,-6,6,-6,0,0,-9223372036854775808,-9223372036854775808,9223372036854775807,1,-1 i:3,3,-3,-3,3,3,-3,-3,3,-3,-1,1,-9223372036854775808,-9223372036854775808,9223372036854775807"
	gives(t, api.OpDiv, plain, in, "i:2,-2,-2,2,2,-2,-2,2,0,0,-9223372036854775808,-9223372036854775808,0,0,0")
	gives(t, api.OpMod, plain, in, "i:1,2,-2,-1,0,0,0,0,0,0,0,0,-1,-9223372036854775807,9223372036854775806")
	gives(t, api.OpMod, fmod, in, "i:1,-1,1,-1,0,0,0,0,0,0,0,0,9223372036854775807,1,-1")
	gives(t, api.OpMod, plain, "i:5,-5,-9223372036854775808 i:-1", "i:0,0,0")
	gives(t, api.OpMod, fmod, "i:5,-5,-9223372036854775808 i:-1", "i:0,0,0")
	gives(t, api.OpDiv, fmod, "i:-7 i:2", "i:-3")
}

// P11.2: whole numbers held against each other.
func TestComparedWholes(t *testing.T) {
	const in = "i:1,2,2,-9223372036854775808,9223372036854775807,-1 i:2,1,2,9223372036854775807,-9223372036854775808,0"
	gives(t, api.OpEqual, plain, in, "b:0,0,1,0,0,0")
	gives(t, api.OpLess, plain, in, "b:1,0,0,1,0,1")
	gives(t, api.OpLessOrEqual, plain, in, "b:1,0,1,1,0,1")
	gives(t, api.OpGreater, plain, in, "b:0,1,0,0,1,0")
	gives(t, api.OpGreaterOrEqual, plain, in, "b:0,1,1,0,1,0")
}

// P11.2: truths.
func TestTruths(t *testing.T) {
	gives(t, api.OpNot, plain, "b:0,1", "b:1,0")
	gives(t, api.OpAnd, plain, "b:0,0,1,1 b:0,1,0,1", "b:0,0,0,1")
	gives(t, api.OpOr, plain, "b:0,0,1,1 b:0,1,0,1", "b:0,1,1,1")
	gives(t, api.OpXor, plain, "b:0,0,1,1 b:0,1,0,1", "b:0,1,1,0")
	gives(t, api.OpEqual, plain, "b:0,0,1,1 b:0,1,0,1", "b:1,0,0,1")
	gives(t, api.OpIdentity, plain, "b:0,1", "b:0,1")
}

// P11.2: Where, of each type, each input in its own shape.
func TestWhere(t *testing.T) {
	gives(t, api.OpWhere, plain, "b:1,0 f:3F800000,40000000 f:40400000,40800000", "f:3F800000,40800000")
	gives(t, api.OpWhere, plain, "b:1,0 i:1,2 i:3,4", "i:1,4")
	gives(t, api.OpWhere, plain, "b:1,1,0,0 b:0,1,0,1 b:1,0,1,0", "b:0,1,1,0")
	gives(t, api.OpWhere, plain, "b2.1:1,0 i3:1,2,3 i.:9", "i2.3:1,2,3,9,9,9")
	gives(t, api.OpWhere, plain, "b.:0 i3:1,2,3 i2.1.1:8,9", "i2.1.3:8,8,8,9,9,9")
	gives(t, api.OpWhere, plain, "b.:1 i0: i1:5", "i:")
}

// P11.2: from each type to each.
func TestCast(t *testing.T) {
	to := func(kind int) api.Setting { return api.Setting{To: kind} }
	gives(t, api.OpCast, to(api.Float), "i:16777217,-9223372036854775808,0,-1,9223372036854775807,16777219", "f:4B800000,DF000000,00000000,BF800000,5F000000,4B800002")
	gives(t, api.OpCast, to(api.Float), "b:0,1", "f:00000000,3F800000")
	gives(t, api.OpCast, to(api.Int), "f:C0200000,40200000,5F000000,DF000000,7F800000,FF800000,7F800001,80000000,3F7FFFFF", "i:-2,2,9223372036854775807,-9223372036854775808,9223372036854775807,-9223372036854775808,0,0,0")
	gives(t, api.OpCast, to(api.Int), "i:-9223372036854775808,5", "i:-9223372036854775808,5")
	gives(t, api.OpCast, to(api.Int), "b:0,1", "i:0,1")
	gives(t, api.OpCast, to(api.Bool), "f:00000000,80000000,00000001,80000001,7F800001,FF800000,BF800000", "b:0,0,1,1,1,1,1")
	gives(t, api.OpCast, to(api.Bool), "i:0,1,-1,-9223372036854775808,4294967296", "b:0,1,1,1,1")
	gives(t, api.OpCast, to(api.Bool), "b:0,1", "b:0,1")
}

// P11.2: all whole numbers at the edges, of each operator of one, and each with each of two.
func TestOddWholes(t *testing.T) {
	x := ofWholes(oddWholes())
	for _, op := range append([]int{api.OpIdentity}, ofSigns...) {
		holds(t, op, plain, x)
	}
	for _, to := range []int{api.Float, api.Int, api.Bool} {
		holds(t, api.OpCast, api.Setting{To: to}, x)
	}
	a, b := pairs(oddWholes())
	for _, op := range ofTwoWholes {
		// Of what is divided by no 0, the rest is reckoned.
		in := [2]api.Tensor{}
		for i := range a {
			if b[i] != 0 || op != api.OpDiv && op != api.OpMod {
				in[0].I, in[1].I = append(in[0].I, a[i]), append(in[1].I, b[i])
			}
		}
		holds(t, op, plain, ofWholes(in[0].I), ofWholes(in[1].I))
		holds(t, op, fmod, ofWholes(in[0].I), ofWholes(in[1].I))
	}
}

// P11.2: whole numbers by chance, of any length.
func TestAnyWholes(t *testing.T) {
	s := seeds.Seed(1102)
	for range 40 {
		var a, b []int64
		for range 500 {
			a = append(a, int64(s.Next())>>s.Below(64))
			b = append(b, int64(s.Next())>>s.Below(64))
		}
		set := api.Setting{Fmod: s.Below(2) == 0, To: []int{1, 7, 9}[s.Below(3)]}
		for _, op := range append([]int{api.OpCast}, ofSigns...) {
			holds(t, op, set, ofWholes(a))
		}
		for _, op := range ofTwoWholes {
			by := slices.Clone(b)
			for i := range by {
				if by[i] == 0 && s.Below(500) > 0 {
					by[i] = -1
				}
			}
			holds(t, op, set, ofWholes(a), ofWholes(by))
		}
		holds(t, api.OpClip, set, ofWholes(a), shaped(ofWholes(b[:1])), shaped(ofWholes(b[1:2])))
	}
}
