package onnx_test

import (
	"testing"

	"lattice/api"
	"lattice/onnx"
)

// flaw is something wrong at one place.
type flaw struct {
	place string
	edit  edit
	err   api.Errno
}

// flaws are of each class in each message.
func flaws() []flaw {
	bad, odd, much := api.ErrMalformed, api.ErrUnsupported, api.ErrLimit
	return []flaw{
		{"model", with(four(1, 0)), bad}, {"model", without(7), bad}, {"model", without(8), odd}, {"model", with(message(8, number(2, 18))), odd}, {"model", with(such(0)), bad},
		{"set", with(number(1, 0)), bad}, {"set", with(number(2, 1)), odd}, {"set", with(such(8)), bad},
		{"graph", with(number(15, 0)), bad}, {"graph", with(data(15)), odd}, {"graph", with(text(2, long(257))), much}, {"graph", with(many(64, message(11, message(2, message(1, number(1, 1), message(2)))))...), much},
		{"graph", with(data(1)), bad}, {"graph", ahead(data(1)), bad}, {"graph", with(message(1, text(4, "A"), text(7, "B"))), odd}, {"graph", ahead(message(1, text(4, "A"), text(7, "B"))), odd},
		{"graph", with(many(1023, message(1, text(4, "A")))...), much}, {"graph", ahead(many(64, message(12, message(2, message(1, number(1, 1), message(2)))))...), much},
		{"node", with(text(4, "")), bad}, {"node", with(number(7, 0)), bad}, {"node", with(text(7, "B")), odd}, {"node", with(many(63, text(1, ""))...), much}, {"node", with(text(1, long(257))), much},
		{"node", with(text(3, long(257))), much}, {"node", with(text(4, long(257))), much}, {"node", with(many(64, text(2, ""))...), much}, {"node", with(many(63, message(5, number(20, 2)))...), much},
		{"attribute", with(number(20, 0)), bad}, {"attribute", with(number(20, 5)), odd}, {"attribute", with(text(4, long(4097))), much}, {"attribute", with(data(5)), bad}, {"attribute", with(data(7, 1)), bad},
		{"attribute", with(packed(8, many(4097, int64(1))...)), much}, {"attribute", with(number(20, 4)), bad}, {"attribute", with(message(5, number(2, 3))), odd}, {"attribute", with(text(1, long(257))), much},
		{"constant", with(number(2, 0)), bad}, {"constant", with(number(2, 3)), odd}, {"constant", with(number(1, 4096)), much}, {"constant", with(number(7, 1)), bad}, {"constant", with(data(3)), odd},
		{"constant", with(number(14, 1)), odd}, {"constant", with(text(8, long(257))), much}, {"constant", with(number(1, -1)), bad}, {"constant", with(many(8, number(1, 1))...), much}, {"constant", with(data(9)), bad},
		{"attributeTensor", with(number(2, 0)), bad}, {"attributeTensor", with(number(14, -1)), odd}, {"attributeTensor", with(number(1, 2049)), much},
		{"input", without(2), bad}, {"input", with(message(2, message(1, number(1, 0)))), odd}, {"input", with(text(1, long(257))), much},
		{"output", without(2), bad}, {"output", with(text(1, long(257))), much}, {"sort", without(1), odd}, {"sort", with(number(1, 0)), bad},
		{"typed", with(number(1, 0)), odd}, {"typed", without(2), odd}, {"typed", with(four(1, 0)), bad},
		{"shape", with(message(1, number(1, 4096))), much}, {"shape", with(many(8, message(1, number(1, 1)))...), much}, {"shape", with(data(1)), odd}, {"shape", with(message(1, number(1, -1))), bad},
		{"dim", with(number(1, -1)), bad}, {"dim", only(), odd}, {"dim", with(number(1, 1366)), much}, {"dim", with(such(8)), bad},
	}
}

// worse is the one of two errors that is told.
func worse(a, b api.Errno) api.Errno {
	for _, err := range []api.Errno{api.ErrMalformed, api.ErrUnsupported, api.ErrLimit} {
		if a == err || b == err {
			return err
		}
	}
	return api.OK
}

// hides: is what the one puts into a message taken away by the other, or made good?
func hides(a, b flaw) bool {
	want, err := wantDecode(edits{a.place: a.edit}.add(b.place, b.edit).file())
	return err != worse(a.err, b.err) || !alike(want, api.Model{})
}

// Something malformed comes ahead of something strange, that ahead of something too much, wherever the two stand in the file.
func TestOrderOfClasses(t *testing.T) {
	all := flaws()
	hidden := 0
	for _, a := range all {
		try{a.place, a.edit, a.err, nil}.run(t, "one flaw")
		for _, b := range all {
			e := edits{a.place: a.edit}.add(b.place, b.edit)
			if hides(a, b) {
				hidden++
				continue
			}
			want := worse(a.err, b.err)
			wantModel(t, "two flaws, "+a.place+" and "+b.place, api.Model{}, want)(onnx.Decode(e.file()))
			for _, place := range places {
				e = e.add(place, backwards)
			}
			if _, err := wantDecode(e.file()); err == want {
				wantModel(t, "two flaws backwards, "+a.place+" and "+b.place, api.Model{}, want)(onnx.Decode(e.file()))
			}
		}
	}
	if hidden > len(all)*len(all)/8 {
		t.Errorf("%d of %d hide each other", hidden, len(all)*len(all))
	}
}

// Of each class one in each of two nodes, constants, values: the first may not be the one that is told.
func TestClassesInARow(t *testing.T) {
	node := map[api.Errno]part{
		api.ErrMalformed: message(1), api.ErrUnsupported: message(1, text(4, "A"), text(7, "B")), api.ErrLimit: message(1, text(4, long(257))), api.OK: message(1, text(4, "A")),
	}
	constant := map[api.Errno]part{
		api.ErrMalformed: message(5, number(2, 9)), api.ErrUnsupported: message(5, number(2, 3)), api.ErrLimit: message(5, number(2, 9), number(1, 4097)), api.OK: message(5, number(2, 9), data(9, 1)),
	}
	input := map[api.Errno]part{
		api.ErrMalformed: message(11), api.ErrUnsupported: message(11, message(2)), api.ErrLimit: message(11, text(1, long(257)), message(2, message(1, number(1, 1), message(2)))), api.OK: message(11, message(2, message(1, number(1, 1), message(2)))),
	}
	output := map[api.Errno]part{}
	for err, p := range input {
		p.num = 12
		output[err] = p
	}
	rows := []map[api.Errno]part{node, constant, input, output}
	errs := []api.Errno{api.OK, api.ErrLimit, api.ErrUnsupported, api.ErrMalformed}
	for _, r := range rows {
		for _, other := range rows {
			for _, a := range errs {
				for _, b := range errs {
					for _, c := range errs {
						file := bytesOf(message(7, r[a], other[b], r[c]), message(8, number(2, 17)))
						want := worse(worse(a, b), c)
						if m, err := onnx.Decode(file); err != want || err != api.OK && !alike(m, api.Model{}) {
							t.Errorf("%v, %v, %v: %v, want %v", a, b, c, err, want)
						}
					}
				}
			}
		}
	}
}
