package ewise_test

import (
	"testing"

	"lattice/api"
	"lattice/ewise"
	"lattice/seeds"
)

// floats: an operator makes of each float the one behind it.
func floats(t *testing.T, op int, s api.Setting, pairs ...string) {
	t.Helper()
	for i := 0; i < len(pairs); i += 2 {
		gives(t, op, s, "f:"+pairs[i], "f:"+pairs[i+1])
	}
}

// P11.2: signs, of noughts and of no numbers, too.
func TestSigns(t *testing.T) {
	floats(t, api.OpAbs, plain, "C0200000", "40200000", "80000000", "00000000", "FF800000", "7F800000", "FFC00001", "7FC00000", "7F800001", "7FC00000")
	floats(t, api.OpNeg, plain, "C0200000", "40200000", "00000000", "80000000", "80000000", "00000000", "7F800000", "FF800000", "7FC00000", "7FC00000", "FFC00000", "7FC00000")
	floats(t, api.OpSign, plain, "C0200000", "BF800000", "00000001", "3F800000", "80000001", "BF800000", "80000000", "00000000", "00000000", "00000000",
		"7F800000", "3F800000", "FF800000", "BF800000", "FFFFFFFF", "7FC00000")
}

// P11.2: whole floats, roots and reciprocals.
func TestWholeFloats(t *testing.T) {
	floats(t, api.OpFloor, plain, "BF000000", "BF800000", "3F000000", "00000000", "C0200000", "C0400000", "80000000", "80000000")
	floats(t, api.OpCeil, plain, "BF000000", "80000000", "3F000000", "3F800000", "C0200000", "C0000000", "7F800001", "7FC00000")
	floats(t, api.OpRound, plain, "BF000000", "80000000", "3F000000", "00000000", "40200000", "40000000", "3FC00000", "40000000", "C0200000", "C0000000")
	floats(t, api.OpSqrt, plain, "40000000", "3FB504F3", "80000000", "80000000", "BF800000", "7FC00000", "7F800000", "7F800000")
	floats(t, api.OpReciprocal, plain, "40400000", "3EAAAAAB", "80000000", "FF800000", "FF800000", "80000000", "7FC00001", "7FC00000")
}

// P11.2: the functions of chapter 3, each its own.
func TestCurves(t *testing.T) {
	floats(t, api.OpExp, plain, "00000000", "3F800000", "3F800000", "402DF854", "FF800000", "00000000")
	floats(t, api.OpLog, plain, "3F800000", "00000000", "40000000", "3F317218", "80000000", "FF800000", "BF800000", "7FC00000")
	floats(t, api.OpSin, plain, "00000000", "00000000", "7F800000", "7FC00000", "FF800000", "7FC00000")
	floats(t, api.OpCos, plain, "00000000", "3F800000", "FF800000", "7FC00000")
	floats(t, api.OpTanh, plain, "80000000", "80000000", "FF800000", "BF800000")
	floats(t, api.OpErf, plain, "41200000", "3F800000", "C1200000", "BF800000")
	floats(t, api.OpSigmoid, plain, "00000000", "3F000000", "FF800000", "00000000")
	floats(t, api.OpSoftplus, plain, "00000000", "3F317218", "FF800000", "00000000", "7F800000", "7F800000")
}

// P11.2: what is bent at 0, by Alpha and Beta, whatever bits they are.
func TestBent(t *testing.T) {
	half := api.Setting{Alpha: 0x3F000000, Beta: 0x3E800000}
	none := api.Setting{Alpha: 0x7F800001, Beta: 0x3E800000}
	floats(t, api.OpRelu, plain, "C0000000", "00000000", "80000000", "00000000", "40000000", "40000000", "FF800001", "7FC00000")
	floats(t, api.OpLeakyRelu, half, "C0000000", "BF800000", "40000000", "40000000", "80000000", "80000000", "FF800000", "FF800000", "7FBFFFFF", "7FC00000")
	floats(t, api.OpLeakyRelu, plain, "C0000000", "80000000", "FF800000", "7FC00000", "40000000", "40000000")
	floats(t, api.OpLeakyRelu, none, "C0000000", "7FC00000", "40000000", "40000000", "80000000", "80000000")
	floats(t, api.OpElu, half, "FF800000", "BF000000", "40000000", "40000000", "80000000", "80000000", "BF800000", "BEA1D2A6", "FFFFFFFF", "7FC00000")
	floats(t, api.OpElu, plain, "FF800000", "80000000")
	floats(t, api.OpElu, none, "C0000000", "7FC00000", "40000000", "40000000")
	floats(t, api.OpHardSigmoid, half, "00000000", "3E800000", "3F800000", "3F400000", "40000000", "3F800000", "BF000000", "00000000", "C0000000", "00000000",
		"7F800000", "3F800000", "FF800000", "00000000", "7FC00000", "7FC00000")
	floats(t, api.OpHardSigmoid, plain, "BF800000", "00000000", "7F800000", "7FC00000")
	floats(t, api.OpHardSigmoid, none, "00000000", "7FC00000")
	floats(t, api.OpHardSigmoid, api.Setting{Beta: 0xFFC00001}, "00000000", "7FC00000")
}

// P11.2: of which kind a float is; the infinite ones by their signs.
func TestKinds(t *testing.T) {
	const in = "f:7F800000,FF800000,7FC00000,FF800001,7F7FFFFF,FF7FFFFF,00000000,80000000"
	gives(t, api.OpIsNaN, plain, in, "b:0,0,1,1,0,0,0,0")
	gives(t, api.OpIsNaN, api.Setting{Low: true, High: true}, in, "b:0,0,1,1,0,0,0,0")
	gives(t, api.OpIsInf, plain, in, "b:0,0,0,0,0,0,0,0")
	gives(t, api.OpIsInf, api.Setting{Low: true}, in, "b:0,1,0,0,0,0,0,0")
	gives(t, api.OpIsInf, api.Setting{High: true}, in, "b:1,0,0,0,0,0,0,0")
	gives(t, api.OpIsInf, api.Setting{Low: true, High: true}, in, "b:1,1,0,0,0,0,0,0")
}

// both: an operator makes of two floats a third one.
func both(t *testing.T, op int, s api.Setting, triples ...string) {
	t.Helper()
	for i := 0; i < len(triples); i += 3 {
		gives(t, op, s, "f:"+triples[i]+" f:"+triples[i+1], "f:"+triples[i+2])
	}
}

// P11.2: two floats, in this order.
func TestTwoFloats(t *testing.T) {
	both(t, api.OpAdd, plain, "3F800000", "40000000", "40400000", "7F800000", "FF800000", "7FC00000", "80000000", "80000000", "80000000")
	both(t, api.OpSub, plain, "3F800000", "40000000", "BF800000", "7F800000", "7F800000", "7FC00000", "3F800000", "3F800000", "00000000")
	both(t, api.OpMul, plain, "40000000", "C0400000", "C0C00000", "7F800000", "80000000", "7FC00000", "00000001", "3F000000", "00000000")
	both(t, api.OpDiv, plain, "3F800000", "40400000", "3EAAAAAB", "3F800000", "80000000", "FF800000", "00000000", "80000000", "7FC00000")
	both(t, api.OpPow, plain, "BF800000", "40400000", "BF800000", "7FC00000", "00000000", "3F800000", "3F800000", "FFC00001", "3F800000", "00000000", "BF800000", "7F800000")
	both(t, api.OpMin, plain, "00000000", "80000000", "80000000", "3F800000", "40000000", "3F800000", "FF800000", "7F800001", "7FC00000")
	both(t, api.OpMax, plain, "00000000", "80000000", "00000000", "3F800000", "40000000", "40000000", "7F800000", "FFC00000", "7FC00000")
	both(t, api.OpPRelu, plain, "C0000000", "3E800000", "BF000000", "40000000", "3E800000", "40000000", "80000000", "3E800000", "80000000", "40000000", "7FC00000", "40000000",
		"C0000000", "7F800001", "7FC00000", "FF800000", "00000000", "7FC00000")
}

// P11.2: Mod of floats: what is left, exactly, with a's sign; where there is none, and where nothing is taken away.
func TestModOfFloats(t *testing.T) {
	both(t, api.OpMod, fmod,
		"40F00000", "40000000", "3FC00000", "C0F00000", "40000000", "BFC00000", "40F00000", "C0000000", "3FC00000", "C0F00000", "C0000000", "BFC00000", // 7.5 by 2
		"40C00000", "40000000", "00000000", "C0C00000", "40000000", "80000000", "C0000000", "C0000000", "80000000", "40000000", "C0000000", "00000000", // without a rest
		"3F800000", "40000000", "3F800000", "BF800000", "C0000000", "BF800000", "3FFFFFFF", "40000000", "3FFFFFFF", // less than b
		"00000000", "40000000", "00000000", "80000000", "40000000", "80000000", "80000000", "C0000000", "80000000", "00000000", "80000001", "00000000", // noughts
		"3F800000", "7F800000", "3F800000", "BF800000", "FF800000", "BF800000", "80000000", "7F800000", "80000000", "7F7FFFFF", "FF800000", "7F7FFFFF", // b infinite
		"7F800000", "3F800000", "7FC00000", "FF800000", "3F800000", "7FC00000", "7F800000", "7F800000", "7FC00000", "FF800000", "7F800000", "7FC00000", // a infinite
		"3F800000", "00000000", "7FC00000", "3F800000", "80000000", "7FC00000", "00000000", "00000000", "7FC00000", "7F800000", "00000000", "7FC00000", // b a nought
		"7F800001", "3F800000", "7FC00000", "3F800000", "FFC00000", "7FC00000", "7FC00000", "00000000", "7FC00000", "7FC00000", "7F800000", "7FC00000", // no numbers
		"7F7FFFFF", "00000001", "00000000", "FF7FFFFF", "00000001", "80000000", "7F7FFFFF", "00000003", "00000000", "7F000000", "00000003", "00000001", "7E800000", "00000003", "00000002", // from the greatest to the least
		"00000007", "00000003", "00000001", "807FFFFF", "00000002", "80000001", "00800001", "007FFFFF", "00000002", "00800000", "00800000", "00000000", // the least ones
		"3F800001", "3F800000", "34000000", "4B800000", "40400000", "3F800000", "7F7FFFFF", "3F800001", "3AC00000", "5F123457", "40490FDB", "40011866", "7F7FFFFF", "C0490FDB", "3FDDB0F8", "FF7FFFFE", "00800001", "80000004", "4B7FFFFF", "007FFFFF", "00000800", // long ones
	)
	// Whole numbers are asked for Fmod only where floats must be.
	gives(t, api.OpMod, plain, "f:3F800000 f:3F800000", "ErrAttr")
}

// P11.2: of floats that are no numbers none is less, greater or the same; the noughts are one.
func TestComparedFloats(t *testing.T) {
	const a = "f:3F800000,40000000,40000000,00000000,7FC00000,7FC00000,FF800000,7F800000"
	const b = " f:40000000,3F800000,40000000,80000000,7FC00000,3F800000,7F800000,7F800001"
	gives(t, api.OpEqual, plain, a+b, "b:0,0,1,1,0,0,0,0")
	gives(t, api.OpLess, plain, a+b, "b:1,0,0,0,0,0,1,0")
	gives(t, api.OpLessOrEqual, plain, a+b, "b:1,0,1,1,0,0,1,0")
	gives(t, api.OpGreater, plain, a+b, "b:0,1,0,0,0,0,0,0")
	gives(t, api.OpGreaterOrEqual, plain, a+b, "b:0,1,1,1,0,0,0,0")
}

// P11.2: Clip: first above b, then below c; each only if it is there.
func TestClip(t *testing.T) {
	const x = "f:C0400000,BF800000,80000000,00000000,3F800000,40400000,7F800001 "
	gives(t, api.OpClip, plain, x, "f:C0400000,BF800000,80000000,00000000,3F800000,40400000,7FC00000")
	gives(t, api.OpClip, plain, x+"- -", "f:C0400000,BF800000,80000000,00000000,3F800000,40400000,7FC00000")
	gives(t, api.OpClip, plain, x+"f.:BF800000", "f:BF800000,BF800000,80000000,00000000,3F800000,40400000,7FC00000")
	gives(t, api.OpClip, plain, x+"f.:00000000 -", "f:00000000,00000000,00000000,00000000,3F800000,40400000,7FC00000")
	gives(t, api.OpClip, plain, x+"- f.:80000000", "f:C0400000,BF800000,80000000,80000000,80000000,80000000,7FC00000")
	gives(t, api.OpClip, plain, x+"f.:BF800000 f.:3F800000", "f:BF800000,BF800000,80000000,00000000,3F800000,3F800000,7FC00000")
	gives(t, api.OpClip, plain, "f:00000000,40400000 f.:40000000 f.:3F800000", "f:3F800000,3F800000")
	gives(t, api.OpClip, plain, "f:3F800000 f.:7FC00000 f.:3F800000", "f:7FC00000")
	gives(t, api.OpClip, plain, "f:3F800000 - f.:FFC00000", "f:7FC00000")
	gives(t, api.OpClip, plain, "i:-5,0,5 i.:-1 i.:1", "i:-1,0,1")
	gives(t, api.OpClip, plain, "i:-5,0,5 i.:2 i.:1", "i:1,1,1")
	gives(t, api.OpClip, plain, "i:-9223372036854775808,9223372036854775807 i.:0", "i:0,9223372036854775807")
	gives(t, api.OpClip, plain, "i:-9223372036854775808,9223372036854775807 - i.:0", "i:-9223372036854775808,0")
	gives(t, api.OpClip, plain, "i:-1,1 i.:0 -", "i:0,1")
}

// P11.2: what is neither reckoned nor cast stays, but all that are no numbers are one.
func TestStaysFloat(t *testing.T) {
	gives(t, api.OpIdentity, plain, "f2.2:7F800001,FFFFFFFF,80000000,00000001", "f2.2:7FC00000,7FC00000,80000000,00000001")
	gives(t, api.OpCast, api.Setting{To: api.Float}, "f:7F800001,FFFFFFFF,80000000,FF800000", "f:7FC00000,7FC00000,80000000,FF800000")
	gives(t, api.OpWhere, plain, "b:1,0 f:FFC00000,3F800000 f:40000000,FF800001", "f:7FC00000,7FC00000")
}

// oddSettings are settings whose floats are at the edges.
func oddSettings() []api.Setting {
	list := []api.Setting{{Fmod: true, Low: true}, {Fmod: true, High: true, Alpha: 0x3C23D70A, Beta: 0x3F000000}, {Fmod: true, Alpha: 0x3E4CCCCD, Beta: 0x3F000000, Low: true, High: true}}
	for _, f := range oddFloats() {
		list = append(list, api.Setting{Alpha: f, Beta: 0x3E800000, Fmod: true}, api.Setting{Alpha: 0xBF800000, Beta: f, Fmod: true})
	}
	return list
}

// holds: Do answers what the chapter's second writing does.
func holds(t *testing.T, op int, s api.Setting, in ...api.Tensor) {
	t.Helper()
	got, err := ewise.Do(op, s, in)
	want, wantErr := wantDo(op, s, in)
	if err != wantErr || !alike(got, want) {
		at := 0
		for at < min(len(got.F), len(want.F)) && got.F[at] == want.F[at] {
			at++
		}
		t.Fatalf("operator %d, %s, %s: %s, want %s; the first unlike float at %d", op, said(s), told(in), told([]api.Tensor{got}), told([]api.Tensor{want}), at)
	}
}

// P11.2: all floats at the edges, of each operator of one float, and each with each of two.
func TestOddFloats(t *testing.T) {
	x := ofFloats(oddFloats())
	for _, s := range oddSettings() {
		for _, op := range append([]int{api.OpIsNaN, api.OpIsInf}, append(ofSigns, ofOneFloat...)...) {
			holds(t, op, s, x)
		}
	}
	for _, to := range []int{api.Float, api.Int, api.Bool} {
		holds(t, api.OpCast, api.Setting{To: to}, x)
	}
	a, b := pairs(oddFloats())
	for from := 0; from < len(a); from += api.MaxElems {
		end := min(from+api.MaxElems, len(a))
		for _, op := range ofTwoFloats {
			holds(t, op, fmod, ofFloats(a[from:end]), ofFloats(b[from:end]))
		}
	}
}

// anyFloat is any bits, now and then near those of another one.
func anyFloat(s *seeds.Seed, near uint32) uint32 {
	switch f := uint32(s.Next()); s.Below(8) {
	case 0:
		return oddFloats()[s.Below(len(oddFloats()))]
	case 1:
		return near ^ f&7
	case 2, 3:
		return near + f%(1<<26)
	default:
		return f
	}
}

// P11.2: floats by chance.
func TestAnyFloats(t *testing.T) {
	s := seeds.Seed(1101)
	for range 40 {
		var a, b []uint32
		for range 500 {
			x := anyFloat(&s, 0x3F800000)
			a, b = append(a, x), append(b, anyFloat(&s, x))
		}
		set := api.Setting{Alpha: anyFloat(&s, 0x3F000000), Beta: anyFloat(&s, 0x3F000000), Fmod: true, Low: s.Below(2) == 0, High: s.Below(2) == 0, To: []int{1, 7, 9}[s.Below(3)]}
		for _, op := range append([]int{api.OpIsNaN, api.OpIsInf, api.OpCast}, append(ofSigns, ofOneFloat...)...) {
			holds(t, op, set, ofFloats(a))
		}
		for _, op := range ofTwoFloats {
			holds(t, op, set, ofFloats(a), ofFloats(b))
		}
		holds(t, api.OpClip, set, ofFloats(a), shaped(ofFloats(b[:1])), shaped(ofFloats(b[1:2])))
	}
}
