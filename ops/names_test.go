package ops_test

import (
	"testing"

	"lattice/api"
	"lattice/ops"
)

// P8.2: as many inputs and outputs as it takes, and one fewer, one more and many more.
func TestHowMany(t *testing.T) {
	for _, r := range wantRows() {
		for _, in := range []int{0, 1, 2, 3, 4, 5, 6, 7, 63, 64, 65, 200} {
			for _, out := range []int{0, 1, 2, 3, 63, 64, 65, 200} {
				n := with(r)
				n.In, n.Out = names("in", in), names("out", out)
				checkAsWanted(t, n)
				fine := in >= r.leastIn && in <= r.mostIn && out >= r.leastOut && out <= r.mostOut
				if _, _, err := ops.Resolve(n); (err == api.OK) != fine {
					t.Errorf("%s of %d to %d: %v", r.name, in, out, err)
				}
			}
		}
	}
}

// P8.2: an empty name at each place among the inputs, and at all of them.
func TestEmptyInputs(t *testing.T) {
	for _, r := range wantRows() {
		for in := r.leastIn; in <= r.mostIn; in++ {
			for at := range in {
				n := with(r)
				n.In = names("in", in)
				n.In[at] = ""
				if at < r.leastIn {
					checkErr(t, n, api.ErrArg)
				} else {
					op, s, _ := ops.Resolve(with(r))
					check(t, n, op, s, api.OK)
				}
			}
			n := with(r)
			n.In = make([]string, in)
			if in > 0 && r.leastIn > 0 {
				checkErr(t, n, api.ErrArg)
			}
			checkAsWanted(t, n)
		}
	}
}

// P8.2: names that may be left out count, though they are empty.
func TestEmptyInputsCount(t *testing.T) {
	checkErr(t, api.Node{Op: "Add", In: []string{"a", "b", ""}, Out: []string{"y"}}, api.ErrArg)
	checkErr(t, api.Node{Op: "Clip", In: []string{"a", "", "", ""}, Out: []string{"y"}}, api.ErrArg)
	checkErr(t, api.Node{Op: "Constant", In: []string{""}, Out: []string{"y"}, Attrs: []api.Attr{number("value_int", 1)}}, api.ErrArg)
	check(t, api.Node{Op: "Clip", In: []string{"a", "", ""}, Out: []string{"y"}}, 43, api.Setting{}, api.OK)
	check(t, api.Node{Op: "Slice", In: []string{"a", "b", "c", "", "d"}, Out: []string{"y"}}, 49, api.Setting{}, api.OK)
}

// P8.2: an empty name at each place among the outputs.
func TestEmptyOutputs(t *testing.T) {
	for _, r := range wantRows() {
		for out := r.leastOut; out <= r.mostOut; out++ {
			for at := range out {
				n := with(r)
				n.Out = names("out", out)
				n.Out[at] = ""
				checkErr(t, n, api.ErrArg)
			}
		}
	}
}

// P8.2: names say nothing else: the same one twice, long ones, and the node's own.
func TestOtherNodeNames(t *testing.T) {
	check(t, api.Node{Op: "Add", In: []string{"a", "a"}, Out: []string{"a"}}, 28, api.Setting{}, api.OK)
	check(t, api.Node{Op: "Split", Name: "Add", In: []string{" "}, Out: []string{"y", "y", "\x00"}}, 48, api.Setting{}, api.OK)
	check(t, api.Node{Op: "Abs", In: []string{string(make([]byte, 300))}, Out: []string{string(make([]byte, 5000))}}, 1, api.Setting{}, api.OK)
}
