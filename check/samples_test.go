package check

import (
	"strconv"
	"strings"
	"testing"

	"organon/api"
	"organon/samples"
)

// The samples under short names.
var (
	must  = samples.Must
	node  = samples.Node
	lined = samples.Lined
)

// good is the verdict of a good unit.
var good = api.Verdict{Good: true}

// bad returns the verdict of a unit whose first bad step is the given one.
func bad(step int, code api.Errno) api.Verdict {
	return api.Verdict{Step: step, Code: code}
}

// none returns the verdict of a text that is no unit.
func none(code api.Errno, line int) api.Verdict {
	return api.Verdict{Code: code, At: line}
}

// first is the text of the unit of the document's first example.
func first() string {
	return lined(samples.Self()...)
}

// third is the text of the unit of the document's third example.
func third() string {
	return lined("cites self", "states @x0 (P0 > P0)", "1 (P0 > P0) : cite self", "2 @x0 (P0 > P0) : gen 1 x0")
}

// proof returns the text of a unit that cites nothing: its steps, without their numbers, are given; it states what the
// last one says.
func proof(steps ...string) string {
	return citing("", steps...)
}

// citing is proof for a unit that cites the names, which are given with a blank between any two of them.
func citing(names string, steps ...string) string {
	says, _, _ := strings.Cut(steps[len(steps)-1], " : ")
	return stating(names, says, steps...)
}

// stating is citing for a unit that states the given formula.
func stating(names, states string, steps ...string) string {
	lines := []string{strings.TrimSuffix("cites "+names, " "), "states " + states}
	for i, step := range steps {
		lines = append(lines, strconv.Itoa(i+1)+" "+step)
	}
	return lined(lines...)
}

// tells returns what a name tells that states the formula with the given text.
func tells(t samples.Failer, name, says string) api.Told {
	t.Helper()
	return api.Told{Name: name, Is: true, Says: must(t, says)}
}

// list returns a told list.
func list(told ...api.Told) []api.Told {
	return told
}

// comes fails unless the verdict is want, whether all is done at once or step by step.
func comes(t *testing.T, text string, told []api.Told, want api.Verdict) {
	t.Helper()
	if v := One(text, told); v != want {
		t.Errorf("One(%s): %v; want %v", short(text), v, want)
	}
	r := New(text, told)
	for r.Step() {
	}
	if v, done := r.Verdict(); v != want || !done {
		t.Errorf("Verdict of %s: %v, %v; want %v", short(text), v, done, want)
	}
}

// short returns a text, or its beginning, as a test tells it.
func short(s string) string {
	return strconv.Quote(s[:min(len(s), 300)])
}
