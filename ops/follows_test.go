package ops_test

import (
	"slices"
	"testing"

	"lattice/api"
	"lattice/ops"
	"lattice/seeds"
)

// full is a node with all attributes of its operator (of a Constant one; of those with an auto_pad without pads, or the other way round).
func full(s *seeds.Seed, r wantRow) api.Node {
	n := node(r.name, r.mostIn, r.mostOut)
	leave := []string{"pads", "auto_pad"}[s.Below(2)]
	for _, w := range r.attrs {
		if all := fits(r.name, w); w.name != leave {
			n.Attrs = append(n.Attrs, all[s.Below(len(all))])
		}
	}
	if r.name == "Constant" {
		n.Attrs = n.Attrs[s.Below(5):][:1]
	}
	return n
}

// P8.3: the order of attributes says nothing.
func TestOrderOfAttributes(t *testing.T) {
	s := seeds.Seed(81)
	for _, r := range wantRows() {
		for range 40 {
			n := full(&s, r)
			op, want, err := ops.Resolve(n)
			if op != r.op || err != api.OK {
				t.Fatalf("%s: %d, %v", short(n), op, err)
			}
			checkAsWanted(t, n)
			for range 4 {
				n.Attrs = shuffled(&s, n.Attrs)
				check(t, n, op, want, api.OK)
			}
		}
	}
}

func shuffled(s *seeds.Seed, list []api.Attr) []api.Attr {
	list = slices.Clone(list)
	for i := len(list) - 1; i > 0; i-- {
		j := s.Below(i + 1)
		list[i], list[j] = list[j], list[i]
	}
	return list
}

// P8.3: an attribute that says what stands without it says nothing, wherever it stands.
func TestSayingWhatStands(t *testing.T) {
	s := seeds.Seed(82)
	for _, r := range wantRows() {
		for _, w := range r.attrs {
			a, is := w.standing()
			if !is {
				continue
			}
			op, want, err := ops.Resolve(with(r))
			check(t, with(r, a), op, want, err)
			for range 20 {
				n := full(&s, r)
				n.Attrs = slices.DeleteFunc(n.Attrs, func(other api.Attr) bool { return other.Name == a.Name })
				op, want, err := ops.Resolve(n)
				n.Attrs = slices.Insert(n.Attrs, s.Below(len(n.Attrs)+1), a)
				check(t, n, op, want, err)
			}
		}
	}
}

// P8.3: neither does a list without elements, but for HasPerm and HasAxes, nor an end of 0, but for HasEnd. (That pads are there beside an auto_pad is an error of P8.2, whatever they say.)
func TestSayingNothing(t *testing.T) {
	for _, r := range wantRows() {
		for _, w := range r.attrs {
			op, want, err := ops.Resolve(with(r))
			switch {
			case w.must || r.name == "Constant":
				continue
			case w.name == "perm":
				want.HasPerm = true
			case w.name == "axes":
				want.HasAxes = true
			case w.name == "end":
				want.HasEnd = true
			}
			if wantKind(w.sort) == api.AttrInts {
				check(t, with(r, numbers(w.name)), op, want, err)
			} else if w.name == "end" {
				check(t, with(r, number(w.name, 0)), op, want, err)
			}
		}
	}
}

// P8.3: only those three tell that an attribute is there.
func TestHas(t *testing.T) {
	for _, r := range wantRows() {
		for _, w := range r.attrs {
			for _, a := range fits(r.name, w) {
				_, s, _ := ops.Resolve(with(r, a))
				if s.HasPerm != (w.name == "perm") || s.HasAxes != (w.name == "axes") || s.HasEnd != (w.name == "end") {
					t.Errorf("%s with %s: %s", r.name, short(a), short(s))
				}
			}
		}
	}
}
