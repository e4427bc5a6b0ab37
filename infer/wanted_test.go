package infer_test

import (
	"slices"

	"lattice/api"
)

// This file is the chapter written down a second time, as plainly as can be: its tables as texts, its counts by counting.

// sign is what an operator takes and makes. In its inputs stand, for each: F, I, B: of that type; N: Float or Int; A: any; X, Y: as the first, the second one; T: a told list. Behind a small o an input may be left out; a star at the end: so on, up to 64 in all. The output is of that type, or as the first or second input; S is what the setting says.
type sign struct{ ins, out string }

func signs() map[int]sign {
	list := map[int]sign{}
	put := func(ins, out string, ops ...int) {
		for _, op := range ops {
			list[op] = sign{ins, out}
		}
	}
	put("N", "X", api.OpAbs, api.OpNeg, api.OpSign)
	put("F", "F", through(api.OpFloor, api.OpSoftplus)...)
	put("A", "X", api.OpIdentity, api.OpTranspose, api.OpFlatten, api.OpDepthToSpace, api.OpSpaceToDepth)
	put("B", "B", api.OpNot)
	put("BB", "B", api.OpAnd, api.OpOr, api.OpXor)
	put("F", "B", api.OpIsNaN, api.OpIsInf)
	put("NX", "X", api.OpAdd, api.OpSub, api.OpMul, api.OpDiv, api.OpMod, api.OpMin, api.OpMax)
	put("FF", "F", api.OpPow, api.OpPRelu, api.OpMatMul)
	put("AX", "B", api.OpEqual)
	put("NX", "B", api.OpLess, api.OpLessOrEqual, api.OpGreater, api.OpGreaterOrEqual)
	put("BAY", "Y", api.OpWhere)
	put("NoXoX", "X", api.OpClip)
	put("A", "S", api.OpCast)
	put("AX*", "X", api.OpConcat)
	put("AoT", "X", api.OpSplit, api.OpSqueeze)
	put("ATToToT", "X", api.OpSlice)
	put("AI", "X", api.OpGather, api.OpGatherElements)
	put("AIX", "X", api.OpScatterElements)
	put("AToX", "X", api.OpPad)
	put("AT", "X", api.OpReshape, api.OpTile, api.OpExpand, api.OpUnsqueeze)
	put("A", "I", api.OpShape, api.OpSize)
	put("T", "S", api.OpConstantOfShape)
	put("NoT", "X", api.OpReduceSum)
	put("N", "X", api.OpReduceMax, api.OpReduceMin, api.OpReduceProd)
	put("F", "F", api.OpReduceMean, api.OpSoftmax, api.OpMaxPool, api.OpAveragePool, api.OpGlobalAveragePool)
	put("N", "I", api.OpArgMax, api.OpArgMin)
	put("FFoF", "F", api.OpGemm, api.OpConv, api.OpLayerNormalization)
	put("FFFFF", "F", api.OpBatchNormalization)
	return list
}

var allSigns = signs()

// slot is one letter of a sign.
type slot struct {
	letter byte
	may    bool
}

func (s sign) slots() []slot {
	var list []slot
	may := false
	for _, c := range []byte(s.ins) {
		switch c {
		case 'o':
			may = true
		case '*':
			last := list[len(list)-1]
			list = list[:len(list)-1]
			last.may = true
			for len(list) < 64 {
				list = append(list, last)
			}
		default:
			list = append(list, slot{c, may})
			may = false
		}
	}
	return list
}

// wantSize is how many elements there are; -1, if such dims may not be.
func wantSize(dims []int) int {
	wrong := func(d int) bool { return d < 0 || d > 4096 }
	n := wantProduct(dims)
	if len(dims) > 8 || slices.ContainsFunc(dims, wrong) || n > 4096 {
		return -1
	}
	return n
}

// asked is an operation, and what does not fit in it.
type asked struct {
	op                               int
	s                                api.Setting
	in                               []api.Val
	outs                             int
	d                                []int
	told                             [][]int
	types, attrs, consts, rank, much bool
}

func there(in []api.Val, i int) bool { return i < len(in) && in[i].Type != 0 }

func (a *asked) there(i int) bool { return there(a.in, i) }

func wantNode(op int, s api.Setting, in []api.Val, outs int) ([]api.Val, api.Errno) {
	what, is := allSigns[op]
	slots := what.slots()
	least := slices.IndexFunc(append(slots, slot{0, true}), func(s slot) bool { return s.may })
	most := 1
	if op == api.OpSplit {
		most = 64
	}
	if !is || len(in) < least || len(in) > len(slots) || outs < 1 || outs > most {
		return nil, api.ErrArg
	}
	for i := range least {
		if !there(in, i) {
			return nil, api.ErrArg
		}
	}
	for i := range in {
		if there(in, i) && wantSize(in[i].Dims) < 0 {
			return nil, api.ErrSize
		}
	}
	a := &asked{op: op, s: s, in: in, outs: outs, d: in[0].Dims, told: make([][]int, len(slots))}
	a.askTypes(slots)
	a.attrs = wantAttrs(a)
	for _, f := range []struct {
		is  bool
		err api.Errno
	}{{a.types, api.ErrType}, {a.attrs, api.ErrAttr}, {a.consts, api.ErrConst}, {a.rank, api.ErrShape}, {a.much, api.ErrSize}} {
		if f.is {
			return nil, f.err
		}
	}
	shapes, err := wantShapes(a)
	if err != api.OK {
		return nil, err
	}
	var list []api.Val
	for _, dims := range shapes {
		if wantSize(dims) < 0 {
			return nil, api.ErrSize
		}
		list = append(list, api.Val{Type: a.made(what.out), Dims: slices.Clone(dims)})
	}
	return list, api.OK
}

func (a *asked) made(out string) int {
	switch out {
	case "F":
		return 1
	case "I":
		return 7
	case "B":
		return 9
	case "X":
		return a.in[0].Type
	case "Y":
		return a.in[1].Type
	}
	if a.op == api.OpCast {
		return a.s.To
	}
	return a.s.Value.Type
}

func (a *asked) askTypes(slots []slot) {
	for i, v := range a.in {
		if !a.there(i) && a.op != api.OpConcat {
			continue
		}
		var ok bool
		switch slots[i].letter {
		case 'F':
			ok = v.Type == 1
		case 'I':
			ok = v.Type == 7
		case 'B':
			ok = v.Type == 9
		case 'N':
			ok = v.Type == 1 || v.Type == 7
		case 'A':
			ok = true
		case 'X':
			ok = v.Type == a.in[0].Type
		case 'Y':
			ok = v.Type == a.in[1].Type
		case 'T':
			ok = v.Type == 7
			a.askTold(i, v)
		}
		a.types = a.types || !ok
	}
	if a.op == api.OpScatterElements && a.s.Mode != 0 && a.in[0].Type == 9 {
		a.types = true
	}
}

func wantTensor(t api.Tensor) bool {
	n := wantSize(t.Dims)
	count := map[int][]int{1: {n, 0, 0}, 7: {0, n, 0}, 9: {0, 0, n}}[t.Type]
	return n >= 0 && slices.Equal(count, []int{len(t.F), len(t.I), len(t.B)})
}

func (a *asked) askTold(i int, v api.Val) {
	if !v.Const || !wantTensor(v.T) || v.T.Type != v.Type || !slices.Equal(v.T.Dims, v.Dims) {
		a.consts = true
		return
	}
	if len(v.Dims) != 1 {
		a.rank = true
		return
	}
	a.told[i] = []int{}
	for _, n := range v.T.I {
		a.told[i] = append(a.told[i], int(n))
		if n > 4096 && a.op != api.OpSlice {
			a.much = true
		}
	}
}

// wantAxes are places without their signs; nothing, if one is none or is there twice.
func wantAxes(axes []int, rank int) ([]int, bool) {
	list := []int{}
	for _, n := range axes {
		if n < 0 && n >= -rank {
			n += rank
		}
		if n < 0 || n >= rank || slices.Contains(list, n) {
			return nil, false
		}
		list = append(list, n)
	}
	return list, true
}

// wantAttrs: is there an attribute that does not fit?
func wantAttrs(a *asked) bool {
	r := len(a.d)
	length := func(n int) bool { return 1 <= n && n <= 4096 }
	_, oneAxis := wantAxes([]int{a.s.Axis}, r)
	lens := func(list []int, may ...int) bool { return slices.Contains(may, len(list)) }
	windows := lens(a.s.Strides, 0, 2) && lens(a.s.Dilations, 0, 2) && lens(a.s.Pads, 0, 4)
	switch name := wantName(a.op); name {
	case "Mod":
		return a.in[0].Type == 1 && !a.s.Fmod
	case "Cast":
		return a.s.To != 1 && a.s.To != 7 && a.s.To != 9
	case "Transpose":
		_, is := wantAxes(a.s.Perm, r)
		return a.s.HasPerm && (len(a.s.Perm) != r || !is || slices.ContainsFunc(a.s.Perm, func(n int) bool { return n < 0 }))
	case "Axis":
		return !oneAxis
	case "Flatten":
		return !slices.Contains(append(through(-r, -1), through(0, r)...), a.s.Axis)
	case "ConstantOfShape":
		return !wantTensor(a.s.Value) || len(a.s.Value.F)+len(a.s.Value.I)+len(a.s.Value.B) != 1
	case "Block":
		return !length(a.s.Block)
	case "Axes":
		_, is := wantAxes(a.s.Axes, r)
		return !is
	case "Conv":
		return !length(a.s.Group) || !lens(a.s.Kernel, 0, 2) || !windows
	case "Pool":
		return !lens(a.s.Kernel, 2) || !windows
	}
	return false
}

// wantName is the name of the operators of which one thing is asked.
func wantName(op int) string {
	for _, row := range []struct {
		name string
		ops  []int
	}{
		{"Mod", []int{32}}, {"Cast", []int{44}}, {"Transpose", []int{45}}, {"Axis", []int{47, 48, 50, 51, 52, 70, 71, 72, 80}},
		{"Flatten", []int{58}}, {"ConstantOfShape", []int{62}}, {"Block", []int{63, 64}}, {"Axes", []int{66, 67, 68, 69}},
		{"Conv", []int{75}}, {"Pool", []int{76, 77}},
	} {
		if slices.Contains(row.ops, op) {
			return row.name
		}
	}
	return ""
}

// wantTogether is what two shapes come to.
func wantTogether(a, b []int) ([]int, api.Errno) {
	if wantSize(a) < 0 || wantSize(b) < 0 {
		return nil, api.ErrSize
	}
	var dims []int
	for i := range max(len(a), len(b)) {
		x, y := 1, 1
		if i < len(a) {
			x = a[len(a)-1-i]
		}
		if i < len(b) {
			y = b[len(b)-1-i]
		}
		if x == 1 {
			x = y
		}
		if y != 1 && y != x {
			return nil, api.ErrShape
		}
		dims = append([]int{x}, dims...)
	}
	if wantSize(dims) < 0 {
		return nil, api.ErrSize
	}
	return dims, api.OK
}

// when is dims, if all that is asked holds.
func when(dims []int, asked ...bool) ([]int, api.Errno) {
	if slices.Contains(asked, false) {
		return nil, api.ErrShape
	}
	return dims, api.OK
}

func wantShapes(a *asked) ([][]int, api.Errno) {
	if a.op == api.OpSplit {
		return wantSplit(a)
	}
	dims, err := wantShape(a)
	return [][]int{dims}, err
}

// dims are those of an input; of one that is left out a list that nothing is like.
func (a *asked) dims(i int) []int {
	if a.there(i) {
		return a.in[i].Dims
	}
	return []int{-1}
}

// isOrNone: is an input left out, or are its dims these?
func (a *asked) isOrNone(i int, dims []int) bool {
	return !a.there(i) || slices.Equal(a.in[i].Dims, dims)
}

func wantShape(a *asked) ([]int, api.Errno) {
	y, z := a.dims(1), a.dims(2)
	switch a.op {
	case api.OpPRelu:
		both, err := wantTogether(a.d, y)
		return when(a.d, err == api.OK && slices.Equal(both, a.d))
	case api.OpWhere:
		both, err := wantTogether(a.d, y)
		if err != api.OK {
			return nil, err
		}
		return wantTogether(both, z)
	case api.OpClip:
		return when(a.d, a.isOrNone(1, nil), a.isOrNone(2, nil))
	case api.OpMatMul:
		return wantMatMul(a.d, y)
	case api.OpGemm:
		return wantGemm(a)
	case api.OpConv:
		return wantConv(a)
	case api.OpMaxPool, api.OpAveragePool:
		if len(a.d) != 4 {
			return nil, api.ErrShape
		}
		return wantWindows(a, a.d[1], a.s.Kernel)
	case api.OpGlobalAveragePool:
		if len(a.d) < 3 || slices.Contains(a.d[2:], 0) {
			return nil, api.ErrShape
		}
		return append([]int{a.d[0], a.d[1]}, []int{1, 1, 1, 1, 1, 1}[:len(a.d)-2]...), api.OK
	case api.OpBatchNormalization:
		one := append(slices.Clone(a.d), 0, 0)[1:2]
		return when(a.d, len(a.d) >= 2, slices.Equal(y, one), slices.Equal(z, one), slices.Equal(a.dims(3), one), slices.Equal(a.dims(4), one))
	case api.OpLayerNormalization:
		at, _ := wantAxes([]int{a.s.Axis}, len(a.d))
		rest := a.d[at[0]:]
		return when(a.d, slices.Equal(y, rest), a.isOrNone(2, rest), !slices.Contains(rest, 0))
	}
	switch {
	case a.op >= api.OpReduceSum && a.op <= api.OpArgMin:
		return wantReduced(a)
	case a.op >= api.OpTranspose && a.op <= api.OpSpaceToDepth:
		return wantMoved(a)
	case len(allSigns[a.op].ins) == 2:
		return wantTogether(a.d, y)
	}
	return a.d, api.OK
}

func wantSplit(a *asked) ([][]int, api.Errno) {
	at, _ := wantAxes([]int{a.s.Axis}, len(a.d))
	n := a.d[at[0]]
	parts := a.told[1]
	if !a.there(1) {
		for range a.outs {
			parts = append(parts, n/a.outs)
		}
	}
	sum := 0
	var shapes [][]int
	for _, p := range parts {
		if p < 0 {
			return nil, api.ErrShape
		}
		sum += p
		dims := slices.Clone(a.d)
		dims[at[0]] = p
		shapes = append(shapes, dims)
	}
	if len(parts) != a.outs || sum != n {
		return nil, api.ErrShape
	}
	return shapes, api.OK
}

func wantReduced(a *asked) ([]int, api.Errno) {
	axes, empty := a.s.Axes, a.op == api.OpReduceSum || a.op == api.OpReduceProd
	switch a.op {
	case api.OpReduceSum:
		axes = a.told[1]
	case api.OpArgMax, api.OpArgMin:
		axes = []int{a.s.Axis}
	}
	over, is := wantAxes(axes, len(a.d))
	if !is {
		return nil, api.ErrShape
	}
	if len(axes) == 0 && (a.op != api.OpReduceSum || !a.s.Noop) {
		over = through(0, len(a.d)-1)
	}
	dims := []int{}
	for i, n := range a.d {
		if !slices.Contains(over, i) {
			dims = append(dims, n)
			continue
		}
		if n == 0 && !empty {
			return nil, api.ErrShape
		}
		if a.s.Keep {
			dims = append(dims, 1)
		}
	}
	return dims, api.OK
}

func wantMatMul(x, y []int) ([]int, api.Errno) {
	if len(x) == 0 || len(y) == 0 {
		return nil, api.ErrShape
	}
	row, column := len(x) == 1, len(y) == 1
	if row {
		x = []int{1, x[0]}
	}
	if column {
		y = []int{y[0], 1}
	}
	i, j := len(x)-2, len(y)-2
	if x[i+1] != y[j] {
		return nil, api.ErrShape
	}
	dims, err := wantTogether(x[:i], y[:j])
	if !row {
		dims = append(dims, x[i])
	}
	if !column {
		dims = append(dims, y[j+1])
	}
	return dims, err
}

func wantGemm(a *asked) ([]int, api.Errno) {
	x, y := a.d, a.dims(1)
	if len(x) != 2 || len(y) != 2 {
		return nil, api.ErrShape
	}
	m, k, l, n := x[0], x[1], y[0], y[1]
	if a.s.TransA {
		m, k = k, m
	}
	if a.s.TransB {
		l, n = n, l
	}
	if k != l {
		return nil, api.ErrShape
	}
	dims := []int{m, n}
	if a.there(2) {
		both, err := wantTogether(a.dims(2), dims)
		return when(dims, err == api.OK && slices.Equal(both, dims))
	}
	return dims, api.OK
}

func wantConv(a *asked) ([]int, api.Errno) {
	x, y, g := a.d, a.dims(1), a.s.Group
	if len(x) != 4 || len(y) != 4 || x[1] == 0 || y[0] == 0 {
		return nil, api.ErrShape
	}
	if _, err := when(nil, y[1]*g == x[1], y[0]%g == 0, a.isOrNone(2, y[:1]), len(a.s.Kernel) == 0 || slices.Equal(a.s.Kernel, y[2:])); err != api.OK {
		return nil, err
	}
	return wantWindows(a, y[0], y[2:])
}

func wantWindows(a *asked, channels int, kernel []int) ([]int, api.Errno) {
	pick := func(list []int, i, without int) int {
		if len(list) == 0 {
			return without
		}
		return list[i]
	}
	dims := []int{a.d[0], channels}
	for i := range 2 {
		n, _, err := wantWindow(a.d[2+i], kernel[i], pick(a.s.Strides, i, 1), pick(a.s.Dilations, i, 1), pick(a.s.Pads, i, 0), pick(a.s.Pads, i+2, 0), a.s.Auto, a.s.Ceil)
		if err != api.OK {
			return nil, api.ErrShape
		}
		dims = append(dims, n)
	}
	return dims, api.OK
}

// wantWindow counts windows one by one.
func wantWindow(size, kernel, stride, dilation, ahead, behind, auto int, ceil bool) (int, int, api.Errno) {
	for _, n := range []int{kernel, stride, dilation} {
		if n < 1 || n > 4096 {
			return 0, 0, api.ErrArg
		}
	}
	for _, n := range []int{size, ahead, behind} {
		if n < 0 || n > 4096 {
			return 0, 0, api.ErrArg
		}
	}
	e := 1
	for range kernel - 1 {
		e += dilation
	}
	if auto == api.ModeUpper || auto == api.ModeLower {
		n, p := 0, 0
		for n*stride < size {
			n++
		}
		if n > 0 {
			p = max(0, (n-1)*stride+e-size)
		}
		less := (p - p%2) / 2
		if auto == api.ModeLower {
			return n, p - less, api.OK
		}
		return n, less, api.OK
	}
	if auto == api.ModeValid {
		ahead, behind = 0, 0
	}
	all := size + ahead + behind
	if all < e {
		return 0, 0, api.ErrShape
	}
	n := 1
	for (n-1)*stride+e+stride <= all || ceil && (n-1)*stride+e < all {
		n++
	}
	if ceil && (n-1)*stride >= size+ahead {
		n--
	}
	return n, ahead, api.OK
}

// wantMoved: see also wantSplit.
func wantMoved(a *asked) ([]int, api.Errno) {
	d, r, y := slices.Clone(a.d), len(a.d), a.dims(1)
	var l []int
	if len(a.told) > 1 {
		l = a.told[1]
	}
	least := 0
	for _, n := range l {
		least = min(least, n)
	}
	switch a.op {
	case api.OpTranspose:
		for i := range d {
			d[i] = a.d[r-1-i]
			if a.s.HasPerm {
				d[i] = a.d[a.s.Perm[i]]
			}
		}
	case api.OpReshape:
		return wantReshape(a, l)
	case api.OpSlice:
		return wantSlice(a)
	case api.OpConcat, api.OpGather, api.OpGatherElements, api.OpScatterElements:
		return wantAlong(a, y)
	case api.OpPad:
		return wantPad(a, l)
	case api.OpTile:
		if len(l) != r || least < 0 {
			return nil, api.ErrShape
		}
		for i := range d {
			d[i] *= l[i]
		}
	case api.OpExpand:
		if least < 0 {
			return nil, api.ErrShape
		}
		return wantTogether(a.d, l)
	case api.OpSqueeze, api.OpUnsqueeze:
		return wantOnes(a, l)
	case api.OpFlatten:
		at := a.s.Axis
		if at < 0 {
			at += r
		}
		return []int{wantProduct(d[:at]), wantProduct(d[at:])}, api.OK
	case api.OpShape:
		return []int{wantTold(a)}, api.OK
	case api.OpSize:
		return nil, api.OK
	case api.OpConstantOfShape:
		return when(a.told[0], !slices.ContainsFunc(a.told[0], func(n int) bool { return n < 0 }))
	case api.OpDepthToSpace, api.OpSpaceToDepth:
		return wantBlocks(a)
	}
	return d, api.OK
}

// wantProduct is 4097, if it is more than that.
func wantProduct(dims []int) int {
	if slices.Contains(dims, 0) {
		return 0
	}
	n := 1
	for _, d := range dims {
		if n *= d; n > 4096 {
			return 4097
		}
	}
	return n
}

func wantReshape(a *asked, l []int) ([]int, api.Errno) {
	if len(l) > 8 {
		return nil, api.ErrSize
	}
	free := 0
	dims := []int{}
	for i, n := range l {
		if n == -1 {
			free++
		} else if n == 0 && !a.s.Zero {
			n = append(slices.Clone(a.d), -9, -9, -9, -9, -9, -9, -9, -9)[i]
		}
		if n < -1 {
			return nil, api.ErrShape
		}
		dims = append(dims, n)
	}
	others := wantProduct(slices.DeleteFunc(slices.Clone(dims), func(n int) bool { return n == -1 }))
	if free > 1 || free == 0 && others != wantProduct(a.d) || others > 4096 || free == 1 && others == 0 {
		return nil, api.ErrShape
	}
	if free == 0 {
		return dims, api.OK
	}
	for n := range 4097 {
		if n*others == wantProduct(a.d) {
			dims[slices.Index(dims, -1)] = n
			return dims, api.OK
		}
	}
	return nil, api.ErrShape
}

// wantSlice walks along each axis.
func wantSlice(a *asked) ([]int, api.Errno) {
	starts, ends, axes, steps := a.told[1], a.told[2], a.told[3], a.told[4]
	if !a.there(3) {
		axes = through(0, len(starts)-1)
	}
	if !a.there(4) {
		steps = slices.Repeat([]int{1}, len(starts))
	}
	at, is := wantAxes(axes, len(a.d))
	if !is || len(ends) != len(starts) || len(axes) != len(starts) || len(steps) != len(starts) || slices.Contains(steps, 0) {
		return nil, api.ErrShape
	}
	dims := slices.Clone(a.d)
	for k, i := range at {
		n := a.d[i]
		start, end, step := starts[k], ends[k], max(min(steps[k], 9999), -9999)
		if start < 0 {
			start += n
		}
		if end < 0 {
			end += n
		}
		count := 0
		if step > 0 {
			start, end = min(max(start, 0), n), min(max(end, 0), n)
			for p := start; p < end; p += step {
				count++
			}
		} else {
			start, end = min(max(start, -1), n-1), min(max(end, -1), n-1)
			for p := start; p > end; p += step {
				count++
			}
		}
		dims[i] = count
	}
	return dims, api.OK
}

// wantAlong: those with an axis.
func wantAlong(a *asked, y []int) ([]int, api.Errno) {
	list, _ := wantAxes([]int{a.s.Axis}, len(a.d))
	at := list[0]
	switch a.op {
	case api.OpGather:
		return slices.Insert(slices.Delete(slices.Clone(a.d), at, at+1), at, y...), api.OK
	case api.OpConcat:
		sum := 0
		for i := range a.in {
			own := slices.Clone(a.dims(i))
			if len(own) != len(a.d) {
				return nil, api.ErrShape
			}
			sum += own[at]
			if own[at] = a.d[at]; !slices.Equal(own, a.d) {
				return nil, api.ErrShape
			}
		}
		dims := slices.Clone(a.d)
		dims[at] = sum
		return dims, api.OK
	}
	if len(y) != len(a.d) {
		return nil, api.ErrShape
	}
	for i := range y {
		if y[i] > a.d[i] && i != at {
			return nil, api.ErrShape
		}
	}
	if a.op == api.OpGatherElements {
		return y, api.OK
	}
	return when(a.d, slices.Equal(a.dims(2), y))
}

func wantPad(a *asked, l []int) ([]int, api.Errno) {
	r := len(a.d)
	if len(l) != 2*r || !a.isOrNone(2, nil) {
		return nil, api.ErrShape
	}
	dims := slices.Clone(a.d)
	for i, p := range l {
		n := a.d[i%r]
		reflects := a.s.Mode == api.ModeReflect && p != 0 && p >= n
		edges := a.s.Mode == api.ModeEdge && p != 0 && n == 0
		if p < 0 || reflects || edges {
			return nil, api.ErrShape
		}
		dims[i%r] += p
	}
	return dims, api.OK
}

// wantOnes: dims of 1 that go or come.
func wantOnes(a *asked, l []int) ([]int, api.Errno) {
	r := len(a.d)
	if a.op == api.OpUnsqueeze {
		r += len(l)
	}
	if r > 8 {
		return nil, api.ErrSize
	}
	at, is := wantAxes(l, r)
	if !is {
		return nil, api.ErrShape
	}
	dims := []int{}
	if a.op == api.OpUnsqueeze {
		rest := a.d
		for i := range r {
			if slices.Contains(at, i) {
				dims = append(dims, 1)
			} else {
				dims, rest = append(dims, rest[0]), rest[1:]
			}
		}
		return dims, api.OK
	}
	for i, n := range a.d {
		named := slices.Contains(at, i)
		if named && n != 1 {
			return nil, api.ErrShape
		}
		if !named && (a.there(1) || n != 1) {
			dims = append(dims, n)
		}
	}
	return dims, api.OK
}

func wantTold(a *asked) int {
	r := len(a.d)
	start, end := a.s.Start, a.s.End
	if start < 0 {
		start += r
	}
	if end < 0 {
		end += r
	}
	if !a.s.HasEnd {
		end = r
	}
	count := 0
	for i := range r {
		if i >= start && i < end {
			count++
		}
	}
	return count
}

func wantBlocks(a *asked) ([]int, api.Errno) {
	b := a.s.Block
	if len(a.d) != 4 {
		return nil, api.ErrShape
	}
	n, c, h, w := a.d[0], a.d[1], a.d[2], a.d[3]
	if a.op == api.OpDepthToSpace {
		return when([]int{n, c / b / b, h * b, w * b}, c/b/b*b*b == c)
	}
	return when([]int{n, c * b * b, h / b, w / b}, h/b*b == h, w/b*b == w)
}

// wantOf is a graph's types and shapes; it takes graphs that are sound alone.
func wantOf(g api.Graph) (api.Graph, api.Errno, int) {
	for i, v := range g.Vals {
		if !v.Const && !slices.Contains(g.Inputs, i) {
			continue
		}
		if slices.ContainsFunc(v.Dims, func(n int) bool { return n < 0 }) {
			return api.Graph{}, api.ErrArg, -1
		}
		if wantSize(v.Dims) < 0 {
			return api.Graph{}, api.ErrSize, -1
		}
		if !slices.Contains([]int{1, 7, 9}, v.Type) {
			return api.Graph{}, api.ErrType, -1
		}
	}
	for _, v := range g.Vals {
		if v.Const && (!wantTensor(v.T) || v.T.Type != v.Type || !slices.Equal(v.T.Dims, v.Dims)) {
			return api.Graph{}, api.ErrShape, -1
		}
	}
	g.Vals = slices.Clone(g.Vals)
	for _, n := range g.Nodes {
		var in []api.Val
		for _, v := range n.In {
			if v == -1 {
				in = append(in, api.Val{})
				continue
			}
			in = append(in, g.Vals[v])
		}
		list, err := wantNode(n.Op, n.S, in, len(n.Out))
		if err != api.OK {
			return api.Graph{}, err, n.Source
		}
		for i, v := range n.Out {
			g.Vals[v].Type, g.Vals[v].Dims = list[i].Type, list[i].Dims
		}
	}
	return g, api.OK, 0
}
