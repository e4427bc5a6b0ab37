package onnx

import "lattice/api"

// Decode is the model of a file.
func Decode(b []byte) (api.Model, api.Errno) {
	if len(b) > api.MaxBytes {
		return api.Model{}, api.ErrLimit
	}
	worst := fine
	model := readModel(message{worst: &worst}.opened(b))
	switch worst {
	case malformed:
		return api.Model{}, api.ErrMalformed
	case strange:
		return api.Model{}, api.ErrUnsupported
	case tooMuch:
		return api.Model{}, api.ErrLimit
	}
	return model, api.OK
}

// The functions below go on where something is wrong, since something worse may stand behind it; what they answer then nobody is told.

func readModel(m message) api.Model {
	m.number(modelVersion)
	m.note(!known(messages(m, modelSets, readSet)), strange)
	graph, is := m.inner(modelGraph)
	m.note(!is, malformed)
	return readGraph(graph)
}

// set is a version of a domain's operators.
type set struct {
	domain  string
	version int64
}

func readSet(m message) set {
	return set{m.text(setDomain), m.number(setVersion)}
}

// known: does the last set of the one domain that is known have the one version that is?
func known(sets []set) bool {
	version := int64(0)
	for _, s := range sets {
		if isOwn(s.domain) {
			version = s.version
		}
	}
	return version == opset
}

// isOwn: is that the domain of the operators that are known?
func isOwn(domain string) bool { return domain == "" || domain == longDomain }

func readGraph(m message) api.Model {
	_, sparse := m.last(graphSparse, dataWire)
	m.note(sparse, strange)
	model := api.Model{
		Opset:   opset,
		Name:    m.name(graphName),
		Nodes:   messages(m, graphNodes, readNode),
		Inits:   messages(m, graphInits, readTensor),
		Inputs:  messages(m, graphInputs, readValue),
		Outputs: messages(m, graphOutputs, readValue),
	}
	m.limit(len(model.Nodes), api.MaxNodes)
	m.limit(len(model.Inits), api.MaxNodes)
	m.limit(len(model.Inputs), api.MaxIn)
	m.limit(len(model.Outputs), api.MaxIn)
	return model
}

func readNode(m message) api.Node {
	node := api.Node{
		Op:    m.name(nodeOp),
		Name:  m.name(nodeName),
		In:    rows(m, nodeIn, m.named),
		Out:   rows(m, nodeOut, m.named),
		Attrs: messages(m, nodeAttrs, readAttr),
	}
	m.note(node.Op == "", malformed)
	m.note(!isOwn(m.text(nodeDomain)), strange)
	m.limit(len(node.In), api.MaxIn)
	m.limit(len(node.Out), api.MaxIn)
	m.limit(len(node.Attrs), api.MaxIn)
	return node
}

func readAttr(m message) api.Attr {
	all := api.Attr{
		Name:   m.name(attrName),
		Kind:   int(m.number(attrKind)),
		F:      m.float(attrFloat),
		I:      m.number(attrInt),
		S:      m.text(attrText),
		Floats: m.floats(attrFloats),
		Ints:   m.numbers(attrInts),
	}
	m.limit(len(all.S), api.MaxElems)
	m.limit(len(all.Floats), api.MaxElems)
	m.limit(len(all.Ints), api.MaxElems)
	tensor, is := m.inner(attrTensor)
	m.note(!is && all.Kind == api.AttrTensor, malformed)
	if is {
		all.T = readTensor(tensor).T
	}
	attr, is := kept(all)
	m.note(!is, strange)
	m.note(all.Kind == api.AttrNone, malformed)
	return attr
}

// kept is an attribute with that field alone which its Kind names; none, if that is no kind.
func kept(all api.Attr) (api.Attr, bool) {
	a := api.Attr{Name: all.Name, Kind: all.Kind}
	switch all.Kind {
	case api.AttrFloat:
		a.F = all.F
	case api.AttrInt:
		a.I = all.I
	case api.AttrText:
		a.S = all.S
	case api.AttrTensor:
		a.T = all.T
	case api.AttrFloats:
		a.Floats = all.Floats
	case api.AttrInts:
		a.Ints = all.Ints
	default:
		return api.Attr{}, false
	}
	return a, true
}

func readValue(m message) api.Value {
	sort, is := m.inner(valueSort)
	m.note(!is, malformed)
	typed, is := sort.inner(sortTensor)
	m.note(!is, strange)
	shape, is := typed.inner(typedShape)
	m.note(!is, strange)
	value := api.Value{
		Name: m.name(valueName),
		Type: int(typed.number(typedType)),
		Dims: messages(shape, shapeDims, readDim),
	}
	m.note(width(value.Type) == 0, strange)
	m.count(value.Dims)
	return value
}

func readDim(m message) int {
	f, is := m.last(dimNumber, varintWire)
	m.note(!is, strange)
	return int(int64(f.X))
}

// count is how many elements there are of dims that a file has; not so, if it may not have them.
func (m message) count(dims []int) (int, bool) {
	n, err := Count(dims)
	m.note(err == api.ErrArg, malformed)
	m.note(err == api.ErrLimit, tooMuch)
	return n, err == api.OK
}
