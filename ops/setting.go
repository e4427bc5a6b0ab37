package ops

import (
	"slices"

	"lattice/api"
)

// takes: may an operator have these inputs and outputs?
func (r row) takes(in, out []string) bool {
	return len(in) >= r.leastIn && len(in) <= r.mostIn && !slices.Contains(in[:r.leastIn], "") &&
		len(out) >= r.leastOut && len(out) <= r.mostOut && !slices.Contains(out, "")
}

// setting is what an operator's attributes say, and whether they may be.
func (r row) setting(given []api.Attr) (api.Setting, bool) {
	s := r.standing()
	seen := make([]bool, len(r.attrs))
	for _, g := range given {
		at := slices.IndexFunc(r.attrs, func(a attribute) bool { return a.name == g.Name })
		if at < 0 || seen[at] || !r.attrs[at].take(&s, g) {
			return api.Setting{}, false
		}
		seen[at] = true
	}
	for at, a := range r.attrs {
		if a.need == required && !seen[at] {
			return api.Setting{}, false
		}
	}
	// It counts that the pads are there, not what they say: a list without a number clashes with padding by itself, too.
	return s, s.Auto == api.ModeNone || !has(given, "pads")
}

// has: is there an attribute of that name?
func has(given []api.Attr, name string) bool {
	return slices.ContainsFunc(given, func(g api.Attr) bool { return g.Name == name })
}

// standing is what holds if all attributes are left out.
func (r row) standing() api.Setting {
	var s api.Setting
	for _, a := range r.attrs {
		switch {
		case a.sort == single:
			s.Value = api.Tensor{Type: api.Float, Dims: []int{1}, F: []uint32{0}}
		case a.stands != 0:
			a.write(&s, a.stands)
		}
	}
	return s
}

// take writes down what an attribute says; false, if it may not be what it is.
func (a attribute) take(s *api.Setting, g api.Attr) bool {
	if !a.sort.bounds().hold(g) {
		return false
	}
	switch a.sort {
	case float:
		a.write(s, int64(g.F))
	case element:
		if !isType(g.I) {
			return false
		}
		fallthrough
	case flag, zero, one, axis, whole, size:
		a.write(s, g.I)
	case reduction, padMode, depthMode, autoPad:
		mode, is := a.sort.mode(g.S)
		if !is {
			return false
		}
		a.write(s, mode)
	case single:
		if len(g.T.F)+len(g.T.I)+len(g.T.B) != 1 {
			return false
		}
		fallthrough
	case tensor:
		s.Value = copied(g.T)
	case floats:
		s.Value = api.Tensor{Type: api.Float, Dims: []int{len(g.Floats)}, F: slices.Clone(g.Floats)}
	case wholes:
		s.Value = api.Tensor{Type: api.Int, Dims: []int{len(g.Ints)}, I: slices.Clone(g.Ints)}
	case places, axes, sizes, pads:
		a.writeList(s, g.Ints)
	}
	return true
}

// write puts bits, a truth, a number or a mode into the attribute's field; those that have none are passed over.
func (a attribute) write(s *api.Setting, n int64) {
	switch a.name {
	case "alpha":
		s.Alpha = uint32(n)
	case "beta":
		s.Beta = uint32(n)
	case "epsilon":
		s.Epsilon = uint32(n)
	case "value_float":
		s.Value = api.Tensor{Type: api.Float, F: []uint32{uint32(n)}}
	case "value_int":
		s.Value = api.Tensor{Type: api.Int, I: []int64{n}}
	case "axis":
		s.Axis = int(n)
	case "to":
		s.To = int(n)
	case "blocksize":
		s.Block = int(n)
	case "group":
		s.Group = int(n)
	case "start":
		s.Start = int(n)
	case "end":
		s.End, s.HasEnd = int(n), true
	case "mode", "reduction":
		s.Mode = int(n)
	case "auto_pad":
		s.Auto = int(n)
	default:
		a.writeFlag(s, n == 1)
	}
}

func (a attribute) writeFlag(s *api.Setting, is bool) {
	switch a.name {
	case "detect_negative":
		s.Low = is
	case "detect_positive":
		s.High = is
	case "fmod":
		s.Fmod = is
	case "allowzero":
		s.Zero = is
	case "keepdims":
		s.Keep = is
	case "noop_with_empty_axes":
		s.Noop = is
	case "select_last_index":
		s.Last = is
	case "transA":
		s.TransA = is
	case "transB":
		s.TransB = is
	case "ceil_mode":
		s.Ceil = is
	case "count_include_pad":
		s.Count = is
	}
}

func (a attribute) writeList(s *api.Setting, given []int64) {
	list := make([]int, len(given))
	for i, n := range given {
		list[i] = int(n)
	}
	switch a.name {
	case "perm":
		s.Perm, s.HasPerm = list, true
	case "axes":
		s.Axes, s.HasAxes = list, true
	case "dilations":
		s.Dilations = list
	case "kernel_shape":
		s.Kernel = list
	case "pads":
		s.Pads = list
	case "strides":
		s.Strides = list
	}
}

// copied is a tensor in memory of its own.
func copied(t api.Tensor) api.Tensor {
	return api.Tensor{Type: t.Type, Dims: slices.Clone(t.Dims), F: slices.Clone(t.F), I: slices.Clone(t.I), B: slices.Clone(t.B)}
}
