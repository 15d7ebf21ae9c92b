package check

import (
	"slices"
	"testing"

	"organon/api"
	"organon/samples"
)

// roomy returns a told list with spare capacity behind it, and behind each list of Kids, in which something is written.
func roomy(told []api.Told) []api.Told {
	list := append(slices.Clone(told), api.Told{Name: "behind"})
	for i := range told {
		list[i].Says = samples.Roomy(told[i].Says)
	}
	return list[:len(told)]
}

// R4: what is told is not changed, nor what is behind its lists.
func TestToldUntouched(t *testing.T) {
	told := list(tells(t, "self", "(P0 > P0)"), tells(t, "b", "@x0 P0(x0, f1(x1))"), api.Told{Name: "c"}, tells(t, "self", "P0"))
	given := roomy(told)
	text := citing("self b c", "(P0 > P0) : cite self", "@x0 P0(x0, f1(x1)) : cite b", "@x1 (P0 > P0) : gen 1 x1")
	goes(t, text, given, 4, good)
	goes(t, citing("c", "P0 : cite c"), given, 2, bad(1, api.ErrAbsent))
	for i, name := range []string{"self", "b", "c", "self"} {
		if given[i].Name != name || given[i].Is != told[i].Is || !samples.Untouched(given[i].Says, samples.Text(told[i].Says)) {
			t.Errorf("%v", given[i])
		}
	}
	if given[:5][4].Name != "behind" {
		t.Error("what is behind the list was changed")
	}
}

// R4: what becomes of a told list after New has no effect on the run.
func TestToldNotKept(t *testing.T) {
	text := citing("a b", "P0(x0, f0(x1)) : cite a", "(P1 > P2) : cite b", "@x0 P0(x0, f0(x1)) : gen 1 x0")
	for done := range 4 {
		told := list(tells(t, "a", "P0(x0, f0(x1))"), tells(t, "b", "(P1 > P2)"))
		r, other := New(text, told), New(text, told)
		for range done {
			r.Step()
		}
		told[0].Says.Kids[1].Kids[0] = samples.Variable(2)
		told[0].Says.Kids[0] = samples.Variable(2)
		told[1].Says.Kids[0], told[1].Says.Kids[1] = told[1].Says.Kids[1], told[1].Says.Kids[0]
		told[0], told[1] = told[1], told[0]
		told[0].Is = false
		for r.Step() {
		}
		stands(t, r, 0, good)
		stands(t, other, 4, good)
	}
}

// R6: nothing of a run shows in later ones.
func TestNothingKept(t *testing.T) {
	told := list(tells(t, "self", "(P0 > P0)"))
	for range 3 {
		comes(t, third(), told, good)
		comes(t, third(), nil, bad(1, api.ErrAbsent))
		comes(t, third(), list(tells(t, "self", "P0")), bad(1, api.ErrOther))
		comes(t, first(), nil, good)
		comes(t, "hello", told, none(api.ErrLine, 1))
	}
}
