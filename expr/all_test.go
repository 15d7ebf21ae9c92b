package expr

import (
	"testing"

	"organon/api"
)

// seen is what a loop over All yields.
type seen struct {
	depth int
	part  api.Expr
}

// walked is All by the words of P2.8.
func walked(e api.Expr, depth int) []seen {
	list := []seen{{depth, e}}
	for _, kid := range e.Kids {
		list = append(list, walked(kid, depth+1)...)
	}
	return list
}

func sameSeen(a, b []seen) bool {
	if len(a) != len(b) {
		return false
	}
	for i := range a {
		if a[i].depth != b[i].depth || !equal(a[i].part, b[i].part) {
			return false
		}
	}
	return true
}

func collect(e api.Expr) []seen {
	var list []seen
	for depth, part := range All(e) {
		list = append(list, seen{depth, part})
	}
	return list
}

// P2.8: the row of the examples.
func TestAllExamples(t *testing.T) {
	want := []seen{{1, q()}, {2, n()}, {3, p()}, {4, v()}, {4, c()}}
	if got := collect(q()); !sameSeen(got, want) {
		t.Errorf("%v", got)
	}
}

// P2.8
func TestAll(t *testing.T) {
	for i, e := range valid() {
		if got := collect(e); !sameSeen(got, walked(e, 1)) {
			t.Errorf("valid %d", i)
		}
	}
}

// P2.8
func TestAllWrong(t *testing.T) {
	for fault, list := range wrong() {
		for i, e := range list {
			for range All(e) {
				t.Fatalf("%d, %d: something is yielded", fault, i)
			}
		}
	}
}

// R10: the loop may be left early, at every place, and repeated.
func TestAllLeftEarly(t *testing.T) {
	e := node(api.Imp, 0, q(), node(api.Eq, 0, v(), node(api.App, 1, c(), v())))
	want := walked(e, 1)
	iterator := All(e)
	for stop := range len(want) + 1 {
		var got []seen
		for depth, part := range iterator {
			if len(got) == stop {
				break
			}
			got = append(got, seen{depth, part})
		}
		if !sameSeen(got, want[:stop]) {
			t.Errorf("left after %d: %v", stop, got)
		}
	}
}

// R10: the loop may be nested in itself.
func TestAllNested(t *testing.T) {
	iterator := All(q())
	var got []seen
	for depth, part := range iterator {
		inner := 0
		for range iterator {
			inner++
		}
		if inner != 5 {
			t.Errorf("%d within", inner)
		}
		got = append(got, seen{depth, part})
	}
	if !sameSeen(got, walked(q(), 1)) {
		t.Errorf("%v", got)
	}
}

// R10: what is changed after the call of All, before the loop or within it, is not seen.
func TestAllOfChanged(t *testing.T) {
	e := q()
	iterator := All(e)
	e.Kids[0].Kids[0] = node(api.Atom, 50)
	e.Kids[0] = node(api.Atom, 51)
	for range 2 {
		var got []seen
		for depth, part := range iterator {
			got = append(got, seen{depth, copyOf(part)})
			if len(part.Kids) > 0 {
				part.Kids[0] = node(99, 99)
			}
			e.Kids[0] = api.Expr{}
		}
		if !sameSeen(got, walked(q(), 1)) {
			t.Errorf("%v", got)
		}
	}

	// One that was not valid when it was passed yields nothing, even if it is valid later.
	e = node(api.Not, 0, v())
	iterator = All(e)
	e.Kids[0] = p()
	for range iterator {
		t.Fatal("something is yielded")
	}
}

// R4: each part is new memory.
func TestAllAnew(t *testing.T) {
	e := roomy(node(api.Imp, 0, q(), q()))
	e.Kids[1] = e.Kids[0]
	noted := map[*api.Expr]bool{}
	note(noted, e)
	iterator := All(e)
	for range 2 {
		for _, part := range iterator {
			claim(t, noted, part)
		}
	}
	untouched(t, e)
}
