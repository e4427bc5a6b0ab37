package ops_test

import (
	"slices"
	"testing"

	"lattice/api"
	"lattice/ops"
)

// The chapter's first example.
func TestExampleNames(t *testing.T) {
	if got := ops.Number("Conv"); got != 75 {
		t.Errorf("Number of Conv: %d", got)
	}
	if got := ops.Name(80); got != "LayerNormalization" {
		t.Errorf("Name of 80: %q", got)
	}
	if ops.Number("conv") != 0 || ops.Name(0) != "" || ops.Name(81) != "" {
		t.Errorf("of none: %d, %q, %q", ops.Number("conv"), ops.Name(0), ops.Name(81))
	}
	if a, b, c, d := ops.Arity(api.OpSplit); a != 1 || b != 2 || c != 1 || d != 64 {
		t.Errorf("Arity of Split: %d %d %d %d", a, b, c, d)
	}
	if got := ops.Attrs(api.OpMod); !slices.Equal(got, []string{"fmod"}) {
		t.Errorf("Attrs of Mod: %q", got)
	}
}

// The chapter's second example.
func TestExampleGemm(t *testing.T) {
	gemm := func(in []string, attrs ...api.Attr) api.Node {
		return api.Node{Op: "Gemm", In: in, Out: []string{"y"}, Attrs: attrs}
	}
	both := []string{"a", "b"}
	check(t, gemm(both, number("transB", 1)), 74, api.Setting{Alpha: 0x3f800000, Beta: 0x3f800000, TransB: true}, api.OK)
	checkErr(t, gemm(both, number("transB", 2)), api.ErrAttr)
	checkErr(t, gemm(both, number("transC", 1)), api.ErrAttr)
	checkErr(t, gemm(both, number("alpha", 1)), api.ErrAttr)
	checkErr(t, gemm(both[:1]), api.ErrArg)
	checkErr(t, api.Node{Op: "Foo", In: both, Out: []string{"y"}}, api.ErrUnsupported)
}

// The chapter's third example.
func TestExampleLeftOut(t *testing.T) {
	check(t, api.Node{Op: "Clip", In: []string{"x", "", "max"}, Out: []string{"y"}}, 43, api.Setting{}, api.OK)
	checkErr(t, api.Node{Op: "Add", In: []string{"x", ""}, Out: []string{"y"}}, api.ErrArg)
}
