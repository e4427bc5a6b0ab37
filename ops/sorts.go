package ops

import (
	"math"
	"slices"

	"lattice/api"
)

// sort is what an attribute may be, and what is done with it.
type sort int

const (
	float sort = iota
	flag
	zero
	one
	axis
	whole
	size
	element // a type of elements
	reduction
	padMode
	depthMode
	autoPad
	tensor
	single
	floats
	wholes
	places
	axes
	sizes
	pads
)

// maxPads is how many pads there may be: one ahead of each dim, and one behind.
const maxPads = 2 * api.MaxDims

// bounds are what an attribute must keep to: its kind, what its numbers are between, and how many its list may have.
type bounds struct {
	kind            int
	least, greatest int64
	most            int
}

func (s sort) bounds() bounds {
	return [...]bounds{
		float:     {kind: api.AttrFloat},
		flag:      {api.AttrInt, 0, 1, 0},
		zero:      {api.AttrInt, 0, 0, 0},
		one:       {api.AttrInt, 1, 1, 0},
		axis:      {api.AttrInt, -api.MaxDims, api.MaxDims, 0},
		whole:     {api.AttrInt, math.MinInt64, math.MaxInt64, 0},
		size:      {api.AttrInt, 1, api.MaxElems, 0},
		element:   {api.AttrInt, api.Float, api.Bool, 0},
		reduction: {kind: api.AttrText},
		padMode:   {kind: api.AttrText},
		depthMode: {kind: api.AttrText},
		autoPad:   {kind: api.AttrText},
		tensor:    {kind: api.AttrTensor},
		single:    {kind: api.AttrTensor},
		floats:    {kind: api.AttrFloats, most: api.MaxElems},
		wholes:    {api.AttrInts, math.MinInt64, math.MaxInt64, api.MaxElems},
		places:    {api.AttrInts, 0, api.MaxDims - 1, api.MaxDims},
		axes:      {api.AttrInts, -api.MaxDims, api.MaxDims, api.MaxDims},
		sizes:     {api.AttrInts, 1, api.MaxElems, api.MaxDims},
		pads:      {api.AttrInts, 0, api.MaxElems, maxPads},
	}[s]
}

// hold: is an attribute of that kind, and are its numbers such?
func (b bounds) hold(a api.Attr) bool {
	beyond := func(n int64) bool { return n < b.least || n > b.greatest }
	switch {
	case a.Kind != b.kind:
		return false
	case a.Kind == api.AttrInt:
		return !beyond(a.I)
	case a.Kind == api.AttrFloats:
		return len(a.Floats) <= b.most
	case a.Kind == api.AttrInts:
		return len(a.Ints) <= b.most && !slices.ContainsFunc(a.Ints, beyond)
	}
	return true
}

// choice is a text that may stand, and its mode.
type choice struct {
	text string
	mode int64
}

// choices are the texts of a sort; none, if its attributes are no texts.
func (s sort) choices() []choice {
	switch s {
	case reduction:
		return []choice{{"none", api.ModeNone}, {"add", api.ModeAdd}, {"mul", api.ModeMul}}
	case padMode:
		return []choice{{"constant", api.ModeConstant}, {"reflect", api.ModeReflect}, {"edge", api.ModeEdge}}
	case depthMode:
		return []choice{{"DCR", api.ModeDCR}, {"CRD", api.ModeCRD}}
	case autoPad:
		return []choice{{"NOTSET", api.ModeNone}, {"VALID", api.ModeValid}, {"SAME_UPPER", api.ModeUpper}, {"SAME_LOWER", api.ModeLower}}
	}
	return nil
}

// mode is that of a text, and whether it is one of the sort's.
func (s sort) mode(text string) (int64, bool) {
	for _, c := range s.choices() {
		if c.text == text {
			return c.mode, true
		}
	}
	return 0, false
}

// isType: is a number that of a type of elements?
func isType(n int64) bool { return n == api.Float || n == api.Int || n == api.Bool }
