package ops_test

import (
	"testing"

	"lattice/api"
)

// faults are ways to make a node wrong, by the error of each.
func faults() map[api.Errno][]func(*api.Node) {
	return map[api.Errno][]func(*api.Node){
		api.ErrUnsupported: {
			func(n *api.Node) { n.Op = "" },
			func(n *api.Node) { n.Op += "s" },
		},
		api.ErrArg: {
			func(n *api.Node) { n.In = names("in", 65) },
			func(n *api.Node) { n.Out = nil },
			func(n *api.Node) { n.Out = names("out", 65) },
			func(n *api.Node) { n.Out[0] = "" },
		},
		api.ErrAttr: {
			func(n *api.Node) { n.Attrs = append(n.Attrs, number("none", 1)) },
			func(n *api.Node) { n.Attrs = append(n.Attrs, api.Attr{}) },
			func(n *api.Node) {
				n.Attrs = append([]api.Attr{number("axis", 9), text("mode", "x"), number("alpha", 1), numbers("pads", -1)}, n.Attrs...)
			},
		},
	}
}

// P8.2, R2: of more errors than one, that which is named first.
func TestOrder(t *testing.T) {
	order := []api.Errno{api.ErrUnsupported, api.ErrArg, api.ErrAttr}
	for _, r := range wantRows() {
		for first, one := range order {
			for _, spoil := range faults()[one] {
				n := with(r)
				spoil(&n)
				checkErr(t, n, one)
				for _, other := range order[first:] {
					for _, more := range faults()[other] {
						both := with(r)
						both.In, both.Out = names("in", r.mostIn), names("out", r.mostOut)
						more(&both)
						if len(both.Out) > 0 {
							spoil(&both)
							checkErr(t, both, one)
						}
					}
				}
			}
		}
	}
}

// P8.2, R2: what must be there, a Constant's one, pads and auto_pad are told behind the names.
func TestOrderOfWholeNodes(t *testing.T) {
	checkErr(t, node("Concat", 0, 1), api.ErrArg)
	checkErr(t, node("Concat", 1, 1), api.ErrAttr)
	checkErr(t, node("Constant", 1, 1), api.ErrArg)
	checkErr(t, node("Constant", 0, 0), api.ErrArg)
	checkErr(t, node("Constant", 0, 1), api.ErrAttr)
	clash := []api.Attr{text("auto_pad", "VALID"), numbers("pads", 1, 1)}
	checkErr(t, node("Conv", 1, 1, clash...), api.ErrArg)
	checkErr(t, node("Conv", 2, 1, clash...), api.ErrAttr)
	checkErr(t, node("conv", 1, 0, clash...), api.ErrUnsupported)
	checkErr(t, api.Node{}, api.ErrUnsupported)
	checkErr(t, api.Node{Op: "Abs"}, api.ErrArg)
}
