package unit

import (
	"math/rand"
	"slices"
	"testing"

	"organon/api"
	"organon/expr"
	"organon/rule"
	"organon/samples"
)

// tells fails unless Tells(s) is want and true, and Cites(s) the names.
func tells(t *testing.T, s string, want api.Expr, names ...string) {
	t.Helper()
	if e, is := Tells(s); !is || !expr.Same(e, want) {
		t.Errorf("Tells(%s) = %s, %v; want %s", short(s), samples.Short(e), is, samples.Short(want))
	}
	if list := Cites(s); !slices.Equal(list, names) {
		t.Errorf("Cites(%s) = %q; want %q", short(s), list, names)
	}
}

// tellsNothing fails unless Tells(s) is nothing and false, and Cites(s) none.
func tellsNothing(t *testing.T, s string) {
	t.Helper()
	if e, is := Tells(s); is || !samples.IsZero(e) {
		t.Errorf("Tells(%s) = %s, %v", short(s), samples.Short(e), is)
	}
	if list := Cites(s); len(list) != 0 {
		t.Errorf("Cites(%s) = %q", short(s), list)
	}
}

// P9.5: the row of the examples.
func TestTellsExamples(t *testing.T) {
	tells(t, lined("cites", "states (P0 | P1)", "1 P5 : axiom 9"), must(t, "(!P0 > P1)"))
	tellsNothing(t, "hello")
}

// P9.5: whether the steps prove the statement or not.
func TestTells(t *testing.T) {
	for s, want := range map[string]string{
		"P0":                     "P0",
		"(P0 & ?x0 P1(x0))":      "!(P0 > !!@x0 !P1(x0))",
		" ( P0|(P1 > x0=x1) )\t": "(!P0 > (P1 > x0 = x1))",
		"@x0 (P0(x0, f0) & P1)":  "@x0 !(P0(x0, f0) > !P1)",
		"!?x63 P0":               "!!@x63 !P0",
	} {
		for _, step := range []string{"1 P5 : axiom 9", "1 P5 : cite nothing", "1 P5 : gen 7 x0", "1 (P1 & P2) : detach 0 0"} {
			tells(t, lined("cites", "states "+s, step), must(t, want))
			tells(t, lined("cites b a c-1", "states "+s, step), must(t, want), "b", "a", "c-1")
			tells(t, "cites b a\nstates "+s+"\n"+step, must(t, want), "b", "a")
		}
	}
	tells(t, lined(append([]string{"cites n0 n1 n2 n3 n4 n5 n6 n7"}, stepLines(60)[1:]...)...), must(t, "P0"), names(8)...)
}

// P9.5: a text that is no unit tells nothing, whichever of its lines is wrong.
func TestTellsNothing(t *testing.T) {
	good := []string{"cites a b", "states P0", "1 P0 : cite a", "2 P0 : axiom 1"}
	tells(t, lined(good...), must(t, "P0"), "a", "b")
	for at := range good {
		for _, line := range []string{"", "x", good[at] + " ", good[at] + " 1", "x" + good[at], good[at][:len(good[at])-1] + "A"} {
			lines := slices.Clone(good)
			if lines[at] = line; at != 1 || line[:min(len(line), 9)] != "states P0" || line == "states P0 1" {
				tellsNothing(t, lined(lines...))
			}
		}
	}
	for _, s := range []string{"", "\n", "cites", "cites a b\n", "cites a b\nstates P0\n", lined(append(good, "3 P0 : axiom x")...)} {
		tellsNothing(t, s)
	}
	tellsNothing(t, lined(stepLines(61)...))
	for length, is := range map[int]bool{20000: true, 20001: false} {
		if _, s := long(t, length); is {
			tells(t, s, must(t, "P0"))
		} else {
			tellsNothing(t, s)
		}
	}
}

// P9.5, P9.6: the plain form at the limits of what can be written, and of arbitrary statements.
func TestTellsPlain(t *testing.T) {
	r := rand.New(rand.NewSource(95))
	list := writable()
	for _, kind := range []int{api.Some, api.All} {
		list = append(list, within(29, kind, 0, node(api.Atom, 0)))
	}
	for _, kind := range []int{api.And, api.Or} {
		e := node(api.Atom, 0)
		for range 29 {
			e = node(kind, 0, node(api.Atom, 1), e)
		}
		list = append(list, e)
	}
	for range 1000 {
		list = append(list, anyWritable(r))
	}
	for _, e := range list {
		want, fault := rule.Plain(e)
		s, code := Print(stating(e))
		if fault != api.OK || code != api.OK {
			t.Fatal(samples.Short(e), fault, code)
		}
		tells(t, s, want)
	}
}
