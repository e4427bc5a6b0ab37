package infer_test

import (
	"testing"

	"lattice/api"
)

// P10.1: MatMul.
func TestMatMul(t *testing.T) {
	table(t, api.OpMatMul, plain, row{"f2.3 f3.4", "f2.4"}, row{"f2.3 f2.4", "ErrShape"}, row{"f3 f3.4", "f4"}, row{"f2.3 f3", "f2"}, row{"f3 f3", "f"}, row{"f2 f3", "ErrShape"}, row{"f f", "ErrShape"}, row{"f f1", "ErrShape"}, row{"f1 f", "ErrShape"}, row{"f2.3 f", "ErrShape"},
		row{"f5.2.3 f3.4", "f5.2.4"}, row{"f2.3 f5.3.4", "f5.2.4"}, row{"f5.2.3 f5.3.4", "f5.2.4"}, row{"f5.2.3 f1.3.4", "f5.2.4"}, row{"f5.1.2.3 f6.3.4", "f5.6.2.4"}, row{"f5.2.3 f6.3.4", "ErrShape"}, row{"f3 f5.3.4", "f5.4"}, row{"f5.2.3 f3", "f5.2"},
		row{"f4 f3.4", "ErrShape"}, row{"f2.3 f4", "ErrShape"}, row{"f5.2.3 f2", "ErrShape"}, row{"f2.0 f0.3", "f2.3"}, row{"f0 f0", "f"}, row{"f0.2 f2.0", "f0.0"}, row{"f0.2.3 f1.3.4", "f0.2.4"}, row{"f0.2.3 f2.3.4", "ErrShape"},
		row{"f1.1.1.1.1.1.2.3 f3.4", "f1.1.1.1.1.1.2.4"}, row{"f1.1.1.1.1.1.2.3 f2.1.1.1.1.1.3.4", "f2.1.1.1.1.1.2.4"}, row{"f64.1 f1.64", "f64.64"}, row{"f64.1 f1.65", "ErrSize"}, row{"f65.1.0 f64.0.1", "ErrShape"}, row{"f65.1.1.0 f64.0.1", "ErrSize"},
		row{"f4096.2.0.1 f1.0", "ErrSize"}, row{"f4096.1.0.1 f1.0", "f4096.1.0.0"}, row{"f2.64.1 f1.64", "ErrSize"}, row{"f2.32.1 f1.64", "f2.32.64"}, row{"f1.4096 f4096.1", "f1.1"},
		row{"i2.3 i3.4", "ErrType"}, row{"f2.3 i3.4", "ErrType"}, row{"i2.3 f3.4", "ErrType"}, row{"b b", "ErrType"})
}

// P10.1: Gemm, each of its inputs turned and not.
func TestGemm(t *testing.T) {
	set := func(a, b bool) api.Setting { return api.Setting{TransA: a, TransB: b} }
	table(t, api.OpGemm, set(false, false), row{"f2.3 f3.4", "f2.4"}, row{"f3.2 f3.4", "ErrShape"}, row{"f2.3 f4.3", "ErrShape"}, row{"f3.2 f4.3", "ErrShape"})
	table(t, api.OpGemm, set(true, false), row{"f3.2 f3.4", "f2.4"}, row{"f2.3 f3.4", "ErrShape"}, row{"f3.2 f4.3", "ErrShape"})
	table(t, api.OpGemm, set(false, true), row{"f2.3 f4.3", "f2.4"}, row{"f2.3 f3.4", "ErrShape"}, row{"f3.2 f4.3", "ErrShape"})
	table(t, api.OpGemm, set(true, true), row{"f3.2 f4.3", "f2.4"}, row{"f2.3 f3.4", "ErrShape"}, row{"f3.2 f3.4", "ErrShape"}, row{"f2.3 f4.3", "ErrShape"})
	table(t, api.OpGemm, plain, row{"f3 f3.4", "ErrShape"}, row{"f2.3 f3", "ErrShape"}, row{"f1.2.3 f3.4", "ErrShape"}, row{"f2.3 f1.3.4", "ErrShape"}, row{"f f", "ErrShape"}, row{"f2.0 f0.3", "f2.3"}, row{"f0.2 f2.3", "f0.3"},
		row{"i2.3 f3.4", "ErrType"}, row{"f2.3 i3.4", "ErrType"}, row{"f2.3 f3.4 i4", "ErrType"}, row{"i2.3 i3.4 i4", "ErrType"}, row{"f64.1 f1.64", "f64.64"}, row{"f64.1 f1.65", "ErrSize"}, row{"f2.3 f3.4 -", "f2.4"})
	// What is added goes into the product.
	table(t, api.OpGemm, plain, row{"f2.3 f3.4 f", "f2.4"}, row{"f2.3 f3.4 f4", "f2.4"}, row{"f2.3 f3.4 f1", "f2.4"}, row{"f2.3 f3.4 f2.1", "f2.4"}, row{"f2.3 f3.4 f1.4", "f2.4"}, row{"f2.3 f3.4 f2.4", "f2.4"}, row{"f2.3 f3.4 f1.1", "f2.4"},
		row{"f2.3 f3.4 f2", "ErrShape"}, row{"f2.3 f3.4 f3", "ErrShape"}, row{"f2.3 f3.4 f1.2.4", "ErrShape"}, row{"f2.3 f3.4 f1.1.1", "ErrShape"}, row{"f2.3 f3.4 f4.2", "ErrShape"}, row{"f2.3 f3.4 f0", "ErrShape"}, row{"f2.3 f3.1 f4", "ErrShape"},
		row{"f1.3 f3.4 f2.1", "ErrShape"}, row{"f64.1 f1.64 f2.1.1", "ErrShape"}, row{"f2.3 f4.4 f9", "ErrShape"})
	// Into a product that may not be nothing goes; that is told ahead of the product itself.
	table(t, api.OpGemm, plain, row{"f64.1 f1.65 f", "ErrShape"}, row{"f64.1 f1.65 f65", "ErrShape"}, row{"f64.1 f1.65 f3", "ErrShape"}, row{"f64.1 f1.65 -", "ErrSize"}, row{"f64.1 f1.65", "ErrSize"}, row{"f64.1 f1.64 f64", "f64.64"})
}
