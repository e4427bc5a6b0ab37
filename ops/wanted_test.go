package ops_test

import (
	"reflect"
	"strconv"
	"strings"
	"sync"

	"lattice/api"
)

// chapterTable is the chapter's table of operators, line by line, without the marks around the attributes' names.
const chapterTable = `| 1 Abs | 1 | 1 |  |
| 2 Neg | 1 | 1 |  |
| 3 Sign | 1 | 1 |  |
| 4 Floor | 1 | 1 |  |
| 5 Ceil | 1 | 1 |  |
| 6 Round | 1 | 1 |  |
| 7 Sqrt | 1 | 1 |  |
| 8 Reciprocal | 1 | 1 |  |
| 9 Exp | 1 | 1 |  |
| 10 Log | 1 | 1 |  |
| 11 Sin | 1 | 1 |  |
| 12 Cos | 1 | 1 |  |
| 13 Tanh | 1 | 1 |  |
| 14 Erf | 1 | 1 |  |
| 15 Sigmoid | 1 | 1 |  |
| 16 Relu | 1 | 1 |  |
| 17 LeakyRelu | 1 | 1 | alpha float 0x3c23d70a Alpha |
| 18 Elu | 1 | 1 | alpha float 0x3f800000 Alpha |
| 19 HardSigmoid | 1 | 1 | alpha float 0x3e4ccccd Alpha; beta float 0x3f000000 Beta |
| 20 Softplus | 1 | 1 |  |
| 21 Identity | 1 | 1 |  |
| 22 Not | 1 | 1 |  |
| 23 And | 2 | 1 |  |
| 24 Or | 2 | 1 |  |
| 25 Xor | 2 | 1 |  |
| 26 IsNaN | 1 | 1 |  |
| 27 IsInf | 1 | 1 | detect_negative flag 1 Low; detect_positive flag 1 High |
| 28 Add | 2 | 1 |  |
| 29 Sub | 2 | 1 |  |
| 30 Mul | 2 | 1 |  |
| 31 Div | 2 | 1 |  |
| 32 Mod | 2 | 1 | fmod flag 0 Fmod |
| 33 Pow | 2 | 1 |  |
| 34 Min | 2 | 1 |  |
| 35 Max | 2 | 1 |  |
| 36 PRelu | 2 | 1 |  |
| 37 Equal | 2 | 1 |  |
| 38 Less | 2 | 1 |  |
| 39 LessOrEqual | 2 | 1 |  |
| 40 Greater | 2 | 1 |  |
| 41 GreaterOrEqual | 2 | 1 |  |
| 42 Where | 3 | 1 |  |
| 43 Clip | 1 to 3 | 1 |  |
| 44 Cast | 1 | 1 | to type (must be there) To |
| 45 Transpose | 1 | 1 | perm places Perm |
| 46 Reshape | 2 | 1 | allowzero flag 0 Zero |
| 47 Concat | 1 to 64 | 1 | axis axis (must be there) Axis |
| 48 Split | 1 to 2 | 1 to 64 | axis axis 0 Axis |
| 49 Slice | 3 to 5 | 1 |  |
| 50 Gather | 2 | 1 | axis axis 0 Axis |
| 51 GatherElements | 2 | 1 | axis axis 0 Axis |
| 52 ScatterElements | 3 | 1 | axis axis 0 Axis; reduction text none Mode |
| 53 Pad | 2 to 3 | 1 | mode text constant Mode |
| 54 Tile | 2 | 1 |  |
| 55 Expand | 2 | 1 |  |
| 56 Squeeze | 1 to 2 | 1 |  |
| 57 Unsqueeze | 2 | 1 |  |
| 58 Flatten | 1 | 1 | axis axis 1 Axis |
| 59 Shape | 1 | 1 | end int End; start int 0 Start |
| 60 Size | 1 | 1 |  |
| 61 Constant | 0 | 1 | value tensor Value; value_float float Value; value_floats floats Value; value_int int Value; value_ints ints Value |
| 62 ConstantOfShape | 1 | 1 | value single 0.0 Value |
| 63 DepthToSpace | 1 | 1 | blocksize size (must be there) Block; mode text DCR Mode |
| 64 SpaceToDepth | 1 | 1 | blocksize size (must be there) Block |
| 65 ReduceSum | 1 to 2 | 1 | keepdims flag 1 Keep; noop_with_empty_axes flag 0 Noop |
| 66 ReduceMean | 1 | 1 | axes axes Axes; keepdims flag 1 Keep |
| 67 ReduceMax | 1 | 1 | axes axes Axes; keepdims flag 1 Keep |
| 68 ReduceMin | 1 | 1 | axes axes Axes; keepdims flag 1 Keep |
| 69 ReduceProd | 1 | 1 | axes axes Axes; keepdims flag 1 Keep |
| 70 ArgMax | 1 | 1 | axis axis 0 Axis; keepdims flag 1 Keep; select_last_index flag 0 Last |
| 71 ArgMin | 1 | 1 | axis axis 0 Axis; keepdims flag 1 Keep; select_last_index flag 0 Last |
| 72 Softmax | 1 | 1 | axis axis -1 Axis |
| 73 MatMul | 2 | 1 |  |
| 74 Gemm | 2 to 3 | 1 | alpha float 0x3f800000 Alpha; beta float 0x3f800000 Beta; transA flag 0 TransA; transB flag 0 TransB |
| 75 Conv | 2 to 3 | 1 | auto_pad text NOTSET Auto; dilations sizes Dilations; group size 1 Group; kernel_shape sizes Kernel; pads pads Pads; strides sizes Strides |
| 76 MaxPool | 1 | 1 | auto_pad text NOTSET Auto; ceil_mode flag 0 Ceil; dilations sizes Dilations; kernel_shape sizes (must be there) Kernel; pads pads Pads; strides sizes Strides |
| 77 AveragePool | 1 | 1 | auto_pad text NOTSET Auto; ceil_mode flag 0 Ceil; count_include_pad flag 0 Count; kernel_shape sizes (must be there) Kernel; pads pads Pads; strides sizes Strides |
| 78 GlobalAveragePool | 1 | 1 |  |
| 79 BatchNormalization | 5 | 1 | epsilon float 0x3727c5ac Epsilon; momentum float (no field); training_mode zero 0 (no field) |
| 80 LayerNormalization | 2 to 3 | 1 | axis axis -1 Axis; epsilon float 0x3727c5ac Epsilon; stash_type one 1 (no field) |`

// wantRow is a line of the table.
type wantRow struct {
	op                int
	name              string
	leastIn, mostIn   int
	leastOut, mostOut int
	attrs             []wantAttr
}

// wantAttr is an attribute as the table has it: stands is empty where nothing is said.
type wantAttr struct {
	name, sort, stands, field string
	must                      bool
}

// wantRows are read once: each node that is tried asks for them.
var wantRows = sync.OnceValue(readRows)

func readRows() []wantRow {
	var rows []wantRow
	for line := range strings.SplitSeq(chapterTable, "\n") {
		cells := strings.Split(strings.Trim(line, "|"), "|")
		number, name, _ := strings.Cut(strings.TrimSpace(cells[0]), " ")
		r := wantRow{op: int(mustNumber(number)), name: name}
		r.leastIn, r.mostIn = span(cells[1])
		r.leastOut, r.mostOut = span(cells[2])
		if strings.TrimSpace(cells[3]) != "" {
			for text := range strings.SplitSeq(cells[3], ";") {
				r.attrs = append(r.attrs, wantAttrOf(text))
			}
		}
		rows = append(rows, r)
	}
	return rows
}

func wantAttrOf(text string) wantAttr {
	text = strings.ReplaceAll(text, "(must be there)", "must")
	text = strings.ReplaceAll(text, "(no field)", "none")
	words := strings.Fields(text)
	a := wantAttr{name: words[0], sort: words[1], field: words[len(words)-1]}
	if len(words) == 4 && words[2] == "must" {
		a.must = true
	} else if len(words) == 4 {
		a.stands = words[2]
	}
	if a.field == "none" {
		a.field = ""
	}
	return a
}

// span is what `2` or `1 to 3` says.
func span(text string) (int, int) {
	least, most, is := strings.Cut(strings.TrimSpace(text), " to ")
	if !is {
		most = least
	}
	return int(mustNumber(least)), int(mustNumber(most))
}

func mustNumber(text string) int64 {
	n, err := strconv.ParseInt(text, 0, 64)
	if err != nil {
		panic(err)
	}
	return n
}

// wantRowOf is the line of an operator's name; nil, if there is none.
func wantRowOf(name string) *wantRow {
	for _, r := range wantRows() {
		if r.name == name {
			return &r
		}
	}
	return nil
}

func (r *wantRow) attr(name string) *wantAttr {
	for i := range r.attrs {
		if r.attrs[i].name == name {
			return &r.attrs[i]
		}
	}
	return nil
}

// wantTexts are the texts of an attribute, with their modes.
func wantTexts(op, attr string) map[string]int {
	switch op + " " + attr {
	case "ScatterElements reduction":
		return map[string]int{"none": 0, "add": 4, "mul": 5}
	case "Pad mode":
		return map[string]int{"constant": 1, "reflect": 2, "edge": 3}
	case "DepthToSpace mode":
		return map[string]int{"DCR": 6, "CRD": 7}
	case "Conv auto_pad", "MaxPool auto_pad", "AveragePool auto_pad":
		return map[string]int{"NOTSET": 0, "VALID": 8, "SAME_UPPER": 9, "SAME_LOWER": 10}
	}
	return nil
}

// wantKind is the kind of a sort's attributes.
func wantKind(sort string) int {
	switch sort {
	case "float":
		return 1
	case "text":
		return 3
	case "tensor", "single":
		return 4
	case "floats":
		return 6
	case "ints", "places", "axes", "sizes", "pads":
		return 7
	}
	return 2
}

func between(list []int64, most int, lo, hi int64) bool {
	for _, n := range list {
		if n < lo || n > hi {
			return false
		}
	}
	return len(list) <= most
}

// wantMay: may an attribute of that sort be what it is?
func wantMay(op string, w *wantAttr, a api.Attr) bool {
	if a.Kind != wantKind(w.sort) {
		return false
	}
	switch w.sort {
	case "float", "int", "tensor":
		return true
	case "flag":
		return a.I == 0 || a.I == 1
	case "zero":
		return a.I == 0
	case "one":
		return a.I == 1
	case "axis":
		return a.I >= -8 && a.I <= 8
	case "size":
		return a.I >= 1 && a.I <= 4096
	case "type":
		return a.I == 1 || a.I == 7 || a.I == 9
	case "text":
		_, is := wantTexts(op, w.name)[a.S]
		return is
	case "single":
		return len(a.T.F)+len(a.T.I)+len(a.T.B) == 1
	case "floats":
		return len(a.Floats) <= 4096
	case "ints":
		return len(a.Ints) <= 4096
	case "places":
		return between(a.Ints, 8, 0, 7)
	case "axes":
		return between(a.Ints, 8, -8, 8)
	case "sizes":
		return between(a.Ints, 8, 1, 4096)
	case "pads":
		return between(a.Ints, 16, 0, 4096)
	}
	panic("no such sort: " + w.sort)
}

// wantSet sets what an attribute says that may be.
func wantSet(s *api.Setting, op string, w *wantAttr, a api.Attr) {
	if w.field == "" {
		return
	}
	to := reflect.ValueOf(s).Elem().FieldByName(w.field)
	switch {
	case w.name == "value_float":
		s.Value = api.Tensor{Type: api.Float, F: []uint32{a.F}}
	case w.name == "value_int":
		s.Value = api.Tensor{Type: api.Int, I: []int64{a.I}}
	case w.sort == "floats":
		s.Value = api.Tensor{Type: api.Float, Dims: []int{len(a.Floats)}, F: a.Floats}
	case w.sort == "ints":
		s.Value = api.Tensor{Type: api.Int, Dims: []int{len(a.Ints)}, I: a.Ints}
	case w.field == "Value":
		s.Value = a.T
	case w.sort == "float":
		to.SetUint(uint64(a.F))
	case w.sort == "flag":
		to.SetBool(a.I == 1)
	case w.sort == "text":
		to.SetInt(int64(wantTexts(op, w.name)[a.S]))
	case a.Kind == api.AttrInts:
		list := make([]int, len(a.Ints))
		for i, n := range a.Ints {
			list[i] = int(n)
		}
		to.Set(reflect.ValueOf(list))
	default:
		to.SetInt(a.I)
	}
	s.HasPerm = s.HasPerm || w.name == "perm"
	s.HasAxes = s.HasAxes || w.name == "axes"
	s.HasEnd = s.HasEnd || w.name == "end"
}

// standing is an attribute that says what stands where it is left out, and whether anything is said to stand.
func (w *wantAttr) standing() (api.Attr, bool) {
	a := api.Attr{Name: w.name, Kind: wantKind(w.sort)}
	switch {
	case w.must || w.stands == "":
		return a, false
	case w.sort == "single":
		a.T = api.Tensor{Type: api.Float, Dims: []int{1}, F: []uint32{0}}
	case w.sort == "text":
		a.S = w.stands
	case w.sort == "float":
		a.F = uint32(mustNumber(w.stands))
	default:
		a.I = mustNumber(w.stands)
	}
	return a, true
}

// wantStanding is the setting where all attributes are left out.
func (r *wantRow) wantStanding() api.Setting {
	var s api.Setting
	for i := range r.attrs {
		if a, is := r.attrs[i].standing(); is {
			wantSet(&s, r.name, &r.attrs[i], a)
		}
	}
	return s
}

func wantNames(r *wantRow, n api.Node) bool {
	if len(n.In) < r.leastIn || len(n.In) > r.mostIn || len(n.Out) < r.leastOut || len(n.Out) > r.mostOut {
		return false
	}
	for i, name := range n.In {
		if i < r.leastIn && name == "" {
			return false
		}
	}
	for _, name := range n.Out {
		if name == "" {
			return false
		}
	}
	return true
}

func wantAttrs(r *wantRow, given []api.Attr) bool {
	times := map[string]int{}
	auto := "NOTSET"
	for _, a := range given {
		times[a.Name]++
		w := r.attr(a.Name)
		if w == nil || times[a.Name] > 1 || !wantMay(r.name, w, a) {
			return false
		}
		if a.Name == "auto_pad" {
			auto = a.S
		}
	}
	for _, w := range r.attrs {
		if w.must && times[w.name] == 0 {
			return false
		}
	}
	if r.name == "Constant" && len(given) != 1 {
		return false
	}
	return times["pads"] == 0 || auto == "NOTSET"
}

// wantResolve is the chapter's promise written down a second time.
func wantResolve(n api.Node) (int, api.Setting, api.Errno) {
	r := wantRowOf(n.Op)
	switch {
	case r == nil:
		return 0, api.Setting{}, api.ErrUnsupported
	case !wantNames(r, n):
		return 0, api.Setting{}, api.ErrArg
	case !wantAttrs(r, n.Attrs):
		return 0, api.Setting{}, api.ErrAttr
	}
	s := r.wantStanding()
	for _, a := range n.Attrs {
		wantSet(&s, r.name, r.attr(a.Name), a)
	}
	return r.op, s, api.OK
}
