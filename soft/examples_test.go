package soft_test

import (
	"testing"

	"lattice/api"
	"lattice/soft"
)

// The chapter's table 'Examples', and what the document's examples say of this layer.
func TestExamples(t *testing.T) {
	for i, c := range []struct{ got, want uint32 }{
		{soft.Add(0x3F800000, 0x3F800000), 0x40000000}, {soft.Add(0x3F800000, 0x33800000), 0x3F800000}, {soft.Add(0x3F800001, 0x33800000), 0x3F800002},
		{soft.AddBy(api.Up, 0x3F800000, 0x00000001), 0x3F800001}, {soft.AddBy(api.Down, 0x3F800000, 0x80000001), 0x3F7FFFFF},
		{soft.Add(0x7F7FFFFF, 0x73000000), 0x7F800000}, {soft.Add(0x7F7FFFFF, 0x72FFFFFF), 0x7F7FFFFF}, {soft.AddBy(api.Down, 0x7F7FFFFF, 0x7F7FFFFF), 0x7F7FFFFF},
		{soft.Sub(0x3F800000, 0x3F800000), 0}, {soft.AddBy(api.Down, 0x3F800000, 0xBF800000), 0x80000000}, {soft.Add(0x80000000, 0x80000000), 0x80000000}, {soft.Add(0x80000000, 0), 0},
		{soft.Mul(0x00000001, 0x3F000000), 0}, {soft.MulBy(api.Up, 0x00000001, 0x3F000000), 1}, {soft.Mul(0x7F800000, 0x80000000), 0x7FC00000}, {soft.Mul(0x7FFFFFFF, 0), 0x7FC00000},
		{soft.Div(0x3F800000, 0x40400000), 0x3EAAAAAB}, {soft.DivBy(api.Up, 0x3F800000, 0x40400000), 0x3EAAAAAB}, {soft.Div(0x3F800000, 0x80000000), 0xFF800000}, {soft.Div(0, 0), 0x7FC00000},
		{soft.Round(api.Nearest, false, 0, 16777217, false), 0x4B800000}, {soft.Round(api.Nearest, false, 0, 16777217, true), 0x4B800001}, {soft.Round(api.Up, true, 200, 1, false), 0xFF7FFFFF},
		{soft.Min(0, 0x80000000), 0x80000000}, {soft.Max(0x7F800001, 0), 0x7FC00000},
	} {
		if c.got != c.want {
			t.Errorf("example %d: %08X, want %08X", i, c.got, c.want)
		}
	}
	if soft.Less(0x80000000, 0) || !soft.Equal(0x80000000, 0) {
		t.Error("the noughts are not one value")
	}
}
