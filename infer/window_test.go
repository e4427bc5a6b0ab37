package infer_test

import (
	"math"
	"testing"

	"lattice/api"
	"lattice/infer"
	"lattice/seeds"
)

// P10.2: numbers that may not be, each by itself, in each mode.
func TestWindowArguments(t *testing.T) {
	for _, auto := range []int{api.ModeNone, api.ModeValid, api.ModeUpper, api.ModeLower, -1, 99} {
		for _, ceil := range []bool{false, true} {
			good := [6]int{10, 3, 2, 1, 1, 1}
			try := func(at, n int, want api.Errno) {
				t.Helper()
				a := good
				a[at] = n
				_, _, err := infer.Window(a[0], a[1], a[2], a[3], a[4], a[5], auto, ceil)
				if (err == api.ErrArg) != (want == api.ErrArg) {
					t.Errorf("%v, %d, %t: %v", a, auto, ceil, err)
				}
				n, pad, err := infer.Window(a[0], a[1], a[2], a[3], a[4], a[5], auto, ceil)
				windows(t, a[0], a[1], a[2], a[3], a[4], a[5], auto, ceil, n, pad, err)
			}
			for at := range good {
				for _, n := range []int{-1, -4096, 4097, 1 << 32, math.MaxInt, math.MinInt} {
					try(at, n, api.ErrArg)
				}
				try(at, 4096, api.OK)
				try(at, 1, api.OK)
				try(at, 0, map[bool]api.Errno{true: api.ErrArg, false: api.OK}[at == 1 || at == 2 || at == 3])
			}
		}
	}
	windows(t, 10, 0, 0, 0, 0, 0, api.ModeValid, false, 0, 0, api.ErrArg)
	windows(t, -1, 1, 1, 1, 0, 0, api.ModeUpper, false, 0, 0, api.ErrArg)
	// Also where the pads do not count.
	windows(t, 10, 3, 1, 1, -1, 0, api.ModeValid, false, 0, 0, api.ErrArg)
	windows(t, 10, 3, 1, 1, 0, 4097, api.ModeUpper, false, 0, 0, api.ErrArg)
}

// P10.2: windows that are padded as told, and not at all.
func TestWindowPads(t *testing.T) {
	for _, auto := range []int{api.ModeNone, api.ModeConstant, api.ModeCRD, 11, -1, math.MinInt} {
		windows(t, 5, 3, 1, 1, 1, 1, auto, false, 5, 1, api.OK)
		windows(t, 5, 3, 1, 1, 2, 0, auto, false, 5, 2, api.OK)
		windows(t, 5, 3, 1, 1, 0, 2, auto, false, 5, 0, api.OK)
		windows(t, 2, 3, 1, 1, 0, 0, auto, false, 0, 0, api.ErrShape)
		windows(t, 2, 3, 1, 1, 1, 0, auto, false, 1, 1, api.OK)
		windows(t, 0, 1, 1, 1, 0, 0, auto, false, 0, 0, api.ErrShape)
		windows(t, 0, 1, 1, 1, 0, 1, auto, false, 1, 0, api.OK)
		windows(t, 0, 1, 1, 1, 3, 0, auto, false, 3, 3, api.OK)
		windows(t, 5, 3, 1, 2, 0, 0, auto, false, 1, 0, api.OK)
		windows(t, 4, 3, 1, 2, 0, 0, auto, false, 0, 0, api.ErrShape)
		windows(t, 4096, 4096, 1, 1, 0, 0, auto, false, 1, 0, api.OK)
		windows(t, 4096, 4096, 1, 4096, 4096, 4096, auto, false, 0, 0, api.ErrShape)
		windows(t, 4096, 1, 1, 4096, 4096, 4096, auto, false, 12288, 4096, api.OK)
		windows(t, 4096, 1, 4096, 1, 4096, 4096, auto, false, 3, 4096, api.OK)
	}
	windows(t, 5, 3, 1, 1, 1, 1, api.ModeValid, false, 3, 0, api.OK)
	windows(t, 5, 3, 2, 2, 4096, 4096, api.ModeValid, false, 1, 0, api.OK)
	windows(t, 2, 3, 1, 1, 9, 9, api.ModeValid, false, 0, 0, api.ErrShape)
	windows(t, 0, 1, 1, 1, 9, 9, api.ModeValid, true, 0, 0, api.ErrShape)
	windows(t, 6, 3, 2, 1, 9, 9, api.ModeValid, true, 3, 0, api.OK)
}

// P10.2: rounded up; the last window begins ahead of the end of what is there.
func TestWindowCeil(t *testing.T) {
	windows(t, 6, 3, 2, 1, 0, 0, api.ModeNone, false, 2, 0, api.OK)
	windows(t, 6, 3, 2, 1, 0, 0, api.ModeNone, true, 3, 0, api.OK)
	windows(t, 7, 3, 2, 1, 0, 0, api.ModeNone, true, 3, 0, api.OK)
	windows(t, 3, 1, 3, 1, 0, 0, api.ModeNone, true, 1, 0, api.OK)
	windows(t, 4, 2, 3, 1, 0, 0, api.ModeNone, true, 2, 0, api.OK)
	windows(t, 3, 2, 3, 1, 0, 0, api.ModeNone, true, 1, 0, api.OK)
	windows(t, 3, 2, 3, 1, 0, 1, api.ModeNone, true, 1, 0, api.OK)
	windows(t, 3, 2, 3, 1, 1, 0, api.ModeNone, true, 2, 1, api.OK)
	// One less also where nothing was rounded, but one alone.
	windows(t, 1, 1, 1, 1, 0, 5, api.ModeNone, false, 6, 0, api.OK)
	windows(t, 1, 1, 1, 1, 0, 5, api.ModeNone, true, 5, 0, api.OK)
	windows(t, 0, 1, 1, 1, 0, 1, api.ModeNone, true, 0, 0, api.OK)
	windows(t, 0, 1, 1, 1, 1, 0, api.ModeNone, true, 1, 1, api.OK)
}

// P10.2: padded by themselves: what is asked for is parted, the odd one behind, or ahead.
func TestWindowAuto(t *testing.T) {
	for _, ceil := range []bool{false, true} {
		for _, x := range []struct{ size, kernel, stride, dilation, n, upper, lower int }{
			{5, 3, 1, 1, 5, 1, 1}, {5, 2, 1, 1, 5, 0, 1}, {5, 4, 1, 1, 5, 1, 2}, {5, 3, 2, 1, 3, 1, 1}, {6, 3, 2, 1, 3, 0, 1}, {5, 1, 2, 1, 3, 0, 0}, {4, 1, 3, 1, 2, 0, 0}, {9, 1, 4, 1, 3, 0, 0},
			{8, 2, 4, 1, 2, 0, 0}, {8, 1, 4, 1, 2, 0, 0}, {5, 3, 1, 2, 5, 2, 2}, {0, 3, 1, 1, 0, 0, 0}, {0, 4096, 4096, 4096, 0, 0, 0}, {1, 7, 1, 1, 1, 3, 3}, {1, 8, 1, 1, 1, 3, 4}, {4096, 1, 1, 1, 4096, 0, 0}, {4096, 4096, 1, 1, 4096, 2047, 2048},
			{4096, 1, 4096, 1, 1, 0, 0}, {1, 4096, 1, 4096, 1, 8386560, 8386560}, {2, 1, 4096, 1, 1, 0, 0},
		} {
			for _, pads := range []int{0, 7, 4096} {
				windows(t, x.size, x.kernel, x.stride, x.dilation, pads, pads/2, api.ModeUpper, ceil, x.n, x.upper, api.OK)
				windows(t, x.size, x.kernel, x.stride, x.dilation, pads, pads/2, api.ModeLower, ceil, x.n, x.lower, api.OK)
			}
		}
	}
}

// P10.2: windows by chance, against windows counted one by one.
func TestAnyWindows(t *testing.T) {
	s := seeds.Seed(102)
	count := map[api.Errno]int{}
	for i := range 200000 {
		most := []int{5, 12, 40}[i%3]
		a := [6]int{s.Below(most), 1 + s.Below(5), 1 + s.Below(4), 1 + s.Below(3), s.Below(4), s.Below(4)}
		for s.Below(20) == 0 {
			a[s.Below(6)] = []int{-1, 0, 1, 4095, 4096, 4097, s.Below(4096)}[s.Below(7)]
		}
		auto, ceil := []int{0, 0, 0, 8, 9, 10, 11}[s.Below(7)], s.Below(2) == 0
		n, pad, err := wantWindow(a[0], a[1], a[2], a[3], a[4], a[5], auto, ceil)
		gotN, gotPad, gotErr := infer.Window(a[0], a[1], a[2], a[3], a[4], a[5], auto, ceil)
		if gotN != n || gotPad != pad || gotErr != err {
			t.Fatalf("%v, %d, %t: %d, %d, %v, want %d, %d, %v", a, auto, ceil, gotN, gotPad, gotErr, n, pad, err)
		}
		count[err]++
	}
	if min(count[api.OK], count[api.ErrArg], count[api.ErrShape]) < 2000 {
		t.Errorf("what was tried is one-sided: %v", count)
	}
}

// conv is a setting of one group.
func conv(change func(*api.Setting)) api.Setting {
	s := api.Setting{Group: 1}
	if change != nil {
		change(&s)
	}
	return s
}

// P10.1: Conv: ranks, groups, kernels.
func TestConv(t *testing.T) {
	table(t, api.OpConv, conv(nil), row{"f1.2.5.5 f3.2.3.3", "f1.3.3.3"}, row{"f1.2.5.5 f3.2.3.3 f3", "f1.3.3.3"}, row{"f1.2.5.5 f3.2.3.3 -", "f1.3.3.3"}, row{"f4.1.5.7 f1.1.1.2", "f4.1.5.6"}, row{"f0.2.5.5 f3.2.3.3", "f0.3.3.3"}, row{"f1.2.5.5 f3.2.5.5", "f1.3.1.1"},
		row{"f1.2.5.5 f3.2.6.5", "ErrShape"}, row{"f1.2.5.5 f3.2.5.6", "ErrShape"}, row{"f1.2.5.5 f3.2.0.3", "ErrShape"}, row{"f1.2.5.5 f3.2.3.0", "ErrShape"}, row{"f1.2.0.5 f3.2.1.3", "ErrShape"},
		row{"f1.2.5.5 f3.1.3.3", "ErrShape"}, row{"f1.2.5.5 f3.3.3.3", "ErrShape"}, row{"f1.2.5.5 f0.2.3.3", "ErrShape"}, row{"f1.0.5.5 f3.0.3.3", "ErrShape"}, row{"f1.0.5.5 f0.0.3.3", "ErrShape"}, row{"f2.5.5 f3.2.3.3", "ErrShape"}, row{"f1.2.5.5 f3.2.3", "ErrShape"},
		row{"f1.2.5.5.1 f3.2.3.3", "ErrShape"}, row{"f1.2.5.5 f3.2.3.3.1", "ErrShape"}, row{"f f", "ErrShape"}, row{"f1.2.5.5 f3.2.3.3 f2", "ErrShape"}, row{"f1.2.5.5 f3.2.3.3 f", "ErrShape"}, row{"f1.2.5.5 f3.2.3.3 f3.1", "ErrShape"}, row{"f1.2.5.5 f3.2.3.3 f1", "ErrShape"},
		row{"i1.2.5.5 f3.2.3.3", "ErrType"}, row{"f1.2.5.5 i3.2.3.3", "ErrType"}, row{"f1.2.5.5 f3.2.3.3 i3", "ErrType"}, row{"i1.2.5.5 i3.2.3.3 i3", "ErrType"}, row{"f1.1.64.64 f2.1.1.1", "ErrSize"}, row{"f1.1.64.64 f1.1.1.1", "f1.1.64.64"})
	group := func(n int) api.Setting { return conv(func(s *api.Setting) { s.Group = n }) }
	table(t, api.OpConv, group(2), row{"f1.4.5.5 f6.2.3.3", "f1.6.3.3"}, row{"f1.4.5.5 f6.2.3.3 f6", "f1.6.3.3"}, row{"f1.4.5.5 f6.4.3.3", "ErrShape"}, row{"f1.4.5.5 f5.2.3.3", "ErrShape"}, row{"f1.5.5.5 f6.2.3.3", "ErrShape"}, row{"f1.1.5.5 f6.0.3.3", "ErrShape"}, row{"f1.4.5.5 f1.2.3.3", "ErrShape"}, row{"f1.2.5.5 f2.1.3.3", "f1.2.3.3"})
	table(t, api.OpConv, group(4096), row{"f1.4096.1.1 f4096.1.1.1", "f1.4096.1.1"}, row{"f1.1.1.1 f4096.1.1.1", "ErrShape"})
	for _, n := range []int{0, -1, 4097, math.MaxInt, math.MinInt} {
		table(t, api.OpConv, group(n), row{"f1.4.5.5 f6.4.3.3", "ErrAttr"}, row{"f1 f6", "ErrAttr"})
	}
	kernel := func(list ...int) api.Setting { return conv(func(s *api.Setting) { s.Kernel = list }) }
	table(t, api.OpConv, kernel(3, 2), row{"f1.2.5.5 f3.2.3.2", "f1.3.3.4"}, row{"f1.2.5.5 f3.2.2.3", "ErrShape"}, row{"f1.2.5.5 f3.2.3.3", "ErrShape"}, row{"f1.2.5.5 f3.2.2.2", "ErrShape"})
	table(t, api.OpConv, kernel(), row{"f1.2.5.5 f3.2.3.2", "f1.3.3.4"})
	for _, list := range [][]int{{3}, {3, 3, 3}, {3, 3, 3, 3}} {
		table(t, api.OpConv, kernel(list...), row{"f1.2.5.5 f3.2.3.3", "ErrAttr"}, row{"f1 f3", "ErrAttr"})
	}
}

// P10.1: strides, dilations, pads and modes of windows, of both dims each by itself.
func TestWindowsOfDims(t *testing.T) {
	for _, op := range []int{api.OpConv, api.OpMaxPool, api.OpAveragePool} {
		in := "f2.3.9.7"
		kernel := []int{3, 2}
		if op == api.OpConv {
			in += " f3.3.3.2"
			kernel = nil
		}
		try := func(want string, change func(*api.Setting)) {
			t.Helper()
			s := conv(change)
			s.Kernel = kernel
			says(t, op, s, in, want)
		}
		try("f2.3.7.6", func(s *api.Setting) {})
		try("f2.3.4.2", func(s *api.Setting) { s.Strides = []int{2, 3} })
		try("f2.3.5.4", func(s *api.Setting) { s.Dilations = []int{2, 3} })
		try("f2.3.11.12", func(s *api.Setting) { s.Pads = []int{1, 2, 3, 4} })
		try("f2.3.8.6", func(s *api.Setting) { s.Pads = []int{1, 0, 0, 0} })
		try("f2.3.7.7", func(s *api.Setting) { s.Pads = []int{0, 1, 0, 0} })
		try("f2.3.8.6", func(s *api.Setting) { s.Pads = []int{0, 0, 1, 0} })
		try("f2.3.7.7", func(s *api.Setting) { s.Pads = []int{0, 0, 0, 1} })
		try("f2.3.9.7", func(s *api.Setting) { s.Auto = api.ModeUpper })
		try("f2.3.5.3", func(s *api.Setting) { s.Auto, s.Strides = api.ModeLower, []int{2, 3} })
		try("f2.3.7.6", func(s *api.Setting) { s.Auto, s.Pads = api.ModeValid, []int{5, 5, 5, 5} })
		try("f2.3.4.2", func(s *api.Setting) { s.Ceil, s.Strides = false, []int{2, 5} })
		try("f2.3.4.2", func(s *api.Setting) { s.Ceil, s.Strides = true, []int{2, 5} })
		try("f2.3.3.3", func(s *api.Setting) { s.Ceil, s.Strides = true, []int{4, 3} })
		try("f2.3.2.2", func(s *api.Setting) { s.Ceil, s.Strides = false, []int{4, 3} })
		try("ErrShape", func(s *api.Setting) { s.Dilations = []int{5, 1} })
		try("ErrShape", func(s *api.Setting) { s.Dilations = []int{1, 7} })
		try("ErrShape", func(s *api.Setting) { s.Dilations = []int{0, 1} })
		try("ErrShape", func(s *api.Setting) { s.Dilations = []int{1, 4097} })
		try("ErrShape", func(s *api.Setting) { s.Strides = []int{1, 0} })
		try("ErrShape", func(s *api.Setting) { s.Strides = []int{-1, 1} })
		try("ErrShape", func(s *api.Setting) { s.Pads = []int{-1, 0, 0, 0} })
		try("ErrShape", func(s *api.Setting) { s.Pads = []int{0, 0, 0, 4097} })
		try("ErrShape", func(s *api.Setting) { s.Auto, s.Pads = api.ModeUpper, []int{0, 0, 0, -1} })
		try("ErrSize", func(s *api.Setting) { s.Pads = []int{4096, 0, 0, 0} })
		try("ErrSize", func(s *api.Setting) { s.Pads = []int{4096, 4096, 4096, 4096} })
		for _, list := range [][]int{{1}, {1, 1, 1}, {1, 1, 1, 1}} {
			try("ErrAttr", func(s *api.Setting) { s.Strides = list })
			try("ErrAttr", func(s *api.Setting) { s.Dilations = list })
		}
		for _, list := range [][]int{{1}, {1, 1}, {1, 1, 1}, {1, 1, 1, 1, 1}, make([]int, 8)} {
			try("ErrAttr", func(s *api.Setting) { s.Pads = list })
		}
	}
}

// P10.1: pools have a kernel of two numbers; what Conv alone asks for says nothing.
func TestPools(t *testing.T) {
	for _, op := range []int{api.OpMaxPool, api.OpAveragePool} {
		kernel := func(list ...int) api.Setting { return api.Setting{Kernel: list, Group: -7} }
		table(t, op, kernel(3, 3), row{"f1.2.5.6", "f1.2.3.4"}, row{"f0.0.5.6", "f0.0.3.4"}, row{"f2.5.6", "ErrShape"}, row{"f1.2.5.6.7", "ErrShape"}, row{"f", "ErrShape"}, row{"i1.2.5.6", "ErrType"}, row{"b1.2.5.6", "ErrType"}, row{"f1.2.2.6", "ErrShape"}, row{"f1.2.6.2", "ErrShape"}, row{"f1.2.0.6", "ErrShape"})
		table(t, op, kernel(1, 6), row{"f1.2.5.6", "f1.2.5.1"}, row{"f1.2.6.5", "ErrShape"})
		for _, list := range [][]int{nil, {3}, {3, 3, 3}, {3, 3, 3, 3}} {
			table(t, op, kernel(list...), row{"f1.2.5.6", "ErrAttr"}, row{"f5", "ErrAttr"}, row{"i5", "ErrType"})
		}
		for _, list := range [][]int{{0, 3}, {3, 0}, {-1, 1}, {1, 4097}, {math.MinInt, 1}, {1, math.MaxInt}} {
			says(t, op, kernel(list...), "f1.2.5.6", "ErrShape")
		}
		// Without windows there is an output without elements.
		s := kernel(3, 3)
		s.Auto = api.ModeUpper
		says(t, op, s, "f1.2.0.6", "f1.2.0.6")
		s = kernel(1, 1)
		s.Ceil, s.Pads = true, []int{0, 0, 1, 0}
		says(t, op, s, "f1.2.0.6", "f1.2.0.6")
		s = kernel(1, 1)
		s.Strides, s.Count = []int{4096, 1}, true
		says(t, op, s, "f1.1.4096.1", "f1.1.1.1")
	}
}
