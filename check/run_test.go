package check

import (
	"strings"
	"testing"

	"organon/api"
)

// stands fails unless a run has just so many steps left, and the verdict that belongs to that.
func stands(t *testing.T, r *Run, left int, want api.Verdict) {
	t.Helper()
	if left > 0 {
		want = api.Verdict{}
	}
	// They are asked twice: to ask changes nothing.
	for range 2 {
		if n := r.Left(); n != left {
			t.Errorf("%d steps are left; want %d", n, left)
		}
		if v, done := r.Verdict(); v != want || done != (left == 0) {
			t.Errorf("%v, %v; want %v, %v", v, done, want, left == 0)
		}
	}
}

// goes fails unless a run takes just so many steps to the verdict.
func goes(t *testing.T, text string, told []api.Told, steps int, want api.Verdict) {
	t.Helper()
	r := New(text, told)
	if r == nil {
		t.Fatal("no run")
	}
	for left := steps; left > 0; left-- {
		stands(t, r, left, want)
		if more := r.Step(); more != (left > 1) {
			t.Errorf("%s: Step: %v, with %d steps left", short(text), more, left-1)
		}
	}
	for range 3 {
		stands(t, r, 0, want)
		if r.Step() {
			t.Errorf("%s: a finished run goes on", short(text))
		}
	}
	comes(t, text, told, want)
}

// P10.1: the row of the examples.
func TestRunExample(t *testing.T) {
	r := New(first(), nil)
	if n := r.Left(); n != 6 {
		t.Error(n)
	}
	if !r.Step() {
		t.Error("finished")
	}
	if n := r.Left(); n != 5 {
		t.Error(n)
	}
	if v, done := r.Verdict(); v != (api.Verdict{}) || done {
		t.Error(v, done)
	}
	for range 5 {
		r.Step()
	}
	if v, done := r.Verdict(); v != good || !done {
		t.Error(v, done)
	}
}

// P10.1: a good unit takes a step more than it has itself.
func TestRunOfGood(t *testing.T) {
	goes(t, first(), nil, 6, good)
	goes(t, third(), list(tells(t, "self", "(P0 > P0)")), 3, good)
	goes(t, proof("x0 = x0 : axiom 6"), nil, 2, good)
	goes(t, stating("", "x0 = x0", repeated(60, "x0 = x0 : axiom 6")...), nil, 61, good)
}

// P10.1: a run is finished after the first bad step.
func TestRunOfBad(t *testing.T) {
	steps := repeated(60, "x0 = x0 : axiom 6")
	for number := 1; number <= 60; number++ {
		steps[number-1] = "x0 = x0 : axiom 7"
		goes(t, stating("", "x0 = x0", steps...), nil, number+1, bad(number, api.ErrAxiom))
		steps[number-1] = "x0 = x0 : axiom 6"
	}
	goes(t, stating("", "x1 = x1", steps...), nil, 61, bad(60, api.ErrStates))
	goes(t, third(), nil, 2, bad(1, api.ErrAbsent))
}

// P10.1: a run of what is no unit is finished after one step.
func TestRunOfNone(t *testing.T) {
	for text, want := range notUnits() {
		goes(t, text, nil, 1, want)
		goes(t, text, list(tells(t, "self", "(P0 > P0)")), 1, want)
	}
}

// P10.1, R6: whether, and when, a run is asked what is left has no effect.
func TestRunUnasked(t *testing.T) {
	text := strings.Replace(first(), "detach 4 3", "detach 3 4", 1)
	for asked := range 7 {
		r := New(text, nil)
		for i := range 6 {
			if asked == i && r.Left() != 6-i {
				t.Error(r.Left(), i)
			}
			if r.Step() != (i < 5) {
				t.Error(i)
			}
		}
		stands(t, r, 0, bad(5, api.ErrDetach))
	}
}

// repeated returns so many equal steps.
func repeated(count int, step string) []string {
	var list []string
	for range count {
		list = append(list, step)
	}
	return list
}
