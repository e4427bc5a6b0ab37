package ops_test

import (
	"slices"
	"testing"

	"lattice/api"
	"lattice/ops"
	"lattice/seeds"
)

// anyAttr is an attribute by chance: most often one of the operator's, and one that may be.
func anyAttr(s *seeds.Seed, rows []wantRow, r wantRow) api.Attr {
	from := r
	if s.Below(30) == 0 || len(r.attrs) == 0 {
		from = rows[s.Below(len(rows))]
	}
	if len(from.attrs) == 0 {
		return number("none", 1)
	}
	w := from.attrs[s.Below(len(from.attrs))]
	all := fits(from.name, w)
	if s.Below(10) == 0 {
		all = append(all, beyond(from.name, w)...)
	}
	a := all[s.Below(len(all))]
	if s.Below(100) == 0 {
		a.Kind = s.Below(12)
	}
	return a
}

// anyNames are names by chance, most often as many as may be.
func anyNames(s *seeds.Seed, least, most int) []string {
	n := least + s.Below(most-least+1)
	if s.Below(30) == 0 {
		n = s.Below(most + 3)
	}
	list := names("x", n)
	if n > 0 && s.Below(15) == 0 {
		list[s.Below(n)] = ""
	}
	return list
}

// anyNode is a node by chance.
func anyNode(s *seeds.Seed, rows []wantRow) api.Node {
	r := rows[s.Below(len(rows))]
	if len(r.attrs) == 0 {
		r = rows[s.Below(len(rows))]
	}
	n := api.Node{Op: r.name, In: anyNames(s, r.leastIn, r.mostIn), Out: anyNames(s, r.leastOut, r.mostOut)}
	for _, a := range needed(r) {
		if s.Below(10) > 0 {
			n.Attrs = append(n.Attrs, a)
		}
	}
	if len(r.attrs) > 0 || s.Below(30) == 0 {
		for range s.Below(len(r.attrs) + 2) {
			a := anyAttr(s, rows, r)
			again := func(b api.Attr) bool { return a.Name == b.Name }
			if s.Below(10) > 0 {
				n.Attrs = slices.DeleteFunc(n.Attrs, again)
			}
			n.Attrs = append(n.Attrs, a)
		}
	}
	return n
}

// P8.2: nodes by chance, against the chapter written down a second time.
func TestAnyNodes(t *testing.T) {
	s := seeds.Seed(83)
	rows := wantRows()
	count := map[api.Errno]int{}
	for range 20000 {
		n := anyNode(&s, rows)
		checkAsWanted(t, n)
		_, _, err := ops.Resolve(n)
		count[err]++
		if t.Failed() {
			t.FailNow()
		}
	}
	if count[api.OK] < 5000 || count[api.ErrArg] < 500 || count[api.ErrAttr] < 2000 {
		t.Errorf("what was tried is one-sided: %v", count)
	}
}
