package expr

import (
	"math"
	"math/rand"
	"testing"

	"organon/api"
)

// P2.7: the row of the examples.
func TestPartsExamples(t *testing.T) {
	for _, c := range []struct {
		path []int
		want api.Expr
		e    api.Errno
	}{
		{[]int{0, 0, 1}, c(), api.OK},
		{[]int{1}, api.Expr{}, api.ErrPath},
		{nil, q(), api.OK},
		{[]int{}, q(), api.OK},
	} {
		if got, e := At(q(), c.path); !equal(got, c.want) || e != c.e {
			t.Errorf("At(q, %v) = %v, %d", c.path, got, e)
		}
	}
	want := node(api.All, 3, node(api.Not, 0, node(api.Atom, 2, v(), v())))
	if got, e := Put(q(), []int{0, 0, 1}, v()); !equal(got, want) || e != api.OK {
		t.Errorf("Put(q, 0 0 1, v) = %v, %d", got, e)
	}
	if got, e := Put(q(), []int{0}, v()); !isZero(got) || e != api.ErrSort {
		t.Errorf("Put(q, 0, v) = %v, %d", got, e)
	}
}

// nowhere returns paths that lead to no part of q.
func nowhere() [][]int {
	long := make([]int, 1<<16)
	return [][]int{
		{1}, {-1}, {2}, {math.MinInt}, {math.MaxInt}, {1 << 32},
		{0, 1}, {0, -1}, {0, 0, 2}, {0, 0, -1}, {0, 0, 0, 0}, {0, 0, 1, 0}, {0, 0, 1, -1}, {0, 0, -2, 0},
		{1, 0}, {-1, 0}, {0, 1, 0}, long,
	}
}

// P2.7, R2, R11
func TestPathsNowhere(t *testing.T) {
	for _, path := range nowhere() {
		if got, e := At(q(), path); !isZero(got) || e != api.ErrPath {
			t.Errorf("At(q, %d numbers) = %v, %d", len(path), got, e)
		}
		for _, x := range []api.Expr{v(), p()} {
			if got, e := Put(q(), path, x); !isZero(got) || e != api.ErrPath {
				t.Errorf("Put(q, %d numbers, x) = %v, %d", len(path), got, e)
			}
		}
	}
	for _, e := range []api.Expr{v(), c(), node(api.Atom, 0)} {
		for _, i := range []int{-1, 0, 1} {
			if got, fault := At(e, []int{i}); !isZero(got) || fault != api.ErrPath {
				t.Errorf("At(%v, %d) = %v, %d", e, i, got, fault)
			}
		}
	}
}

// P2.7: each Kid of a node with four.
func TestAtEachKid(t *testing.T) {
	e := node(api.Atom, 0, node(api.Var, 0), node(api.Var, 1), node(api.Var, 2), node(api.Var, 3))
	for i := range 4 {
		if got, fault := At(e, []int{i}); !equal(got, node(api.Var, i)) || fault != api.OK {
			t.Errorf("At(e, %d) = %v, %d", i, got, fault)
		}
		got, fault := Put(e, []int{i}, c())
		want := copyOf(e)
		want.Kids[i] = c()
		if !equal(got, want) || fault != api.OK {
			t.Errorf("Put(e, %d, c) = %v, %d", i, got, fault)
		}
	}
	if _, fault := At(e, []int{4}); fault != api.ErrPath {
		t.Errorf("At(e, 4): %d", fault)
	}
}

// P2.7, R2, R3, R8: which error comes first.
func TestPartsWrong(t *testing.T) {
	all := wrong()
	for want, list := range all {
		for i, e := range list {
			for _, path := range [][]int{nil, {0}, {-1}} {
				if got, fault := At(e, path); !isZero(got) || fault != want {
					t.Errorf("At(wrong %d, %v): %d; want %d", i, path, fault, want)
				}
				if got, fault := Put(e, path, v()); !isZero(got) || fault != want {
					t.Errorf("Put(wrong %d, %v, v): %d; want %d", i, path, fault, want)
				}
				if got, fault := Put(q(), path, e); !isZero(got) || fault != want {
					t.Errorf("Put(q, %v, wrong %d): %d; want %d", path, i, fault, want)
				}
			}
			for first, others := range all {
				if got, fault := Put(others[0], nil, e); !isZero(got) || fault != first {
					t.Errorf("Put(wrong, no path, wrong %d): %d; want %d", i, fault, first)
				}
			}
		}
	}
}

// P2.7
func TestPutSort(t *testing.T) {
	for _, c := range []struct {
		e    api.Expr
		path []int
		x    api.Expr
	}{
		{q(), nil, v()}, {q(), nil, c()}, {v(), nil, p()}, {c(), nil, q()},
		{q(), []int{0}, c()}, {q(), []int{0, 0}, v()}, {q(), []int{0, 0, 0}, p()}, {q(), []int{0, 0, 1}, n()},
		{node(api.Eq, 0, v(), v()), []int{1}, p()}, {node(api.App, 0, v()), []int{0}, p()},
		// ErrSort comes ahead of ErrMany and ErrDeep.
		{sized(1000), []int{0}, sizedTerm(1000)}, {nested(98, p()), []int{0, 0, 0, 0, 0}, nestedTerm(99, v())},
	} {
		if got, fault := Put(c.e, c.path, c.x); !isZero(got) || fault != api.ErrSort {
			t.Errorf("Put(.., %v, ..) = %v, %d", c.path, got, fault)
		}
	}
}

// P2.7: at the root, the whole is replaced.
func TestPutAtRoot(t *testing.T) {
	for _, x := range []api.Expr{p(), n(), sized(1000), nested(99, node(api.Atom, 0))} {
		if got, fault := Put(sized(1000), nil, x); !equal(got, x) || fault != api.OK {
			t.Errorf("%d", fault)
		}
	}
	if got, fault := Put(v(), []int{}, sizedTerm(1000)); !equal(got, sizedTerm(1000)) || fault != api.OK {
		t.Errorf("%d", fault)
	}
}

// P2.7, R9: the result has MaxNodes nodes, or one more; MaxDepth of them are nested in each other, or one more.
func TestPutLimits(t *testing.T) {
	atom := node(api.Atom, 0)
	imp := node(api.Imp, 0, sized(499), atom)
	zeros := func(n int) []int { return make([]int, n) }
	for _, c := range []struct {
		name string
		e    api.Expr
		path []int
		x    api.Expr
		want api.Errno
	}{
		{"1000 nodes", imp, []int{1}, sized(500), api.OK},
		{"1001 nodes", imp, []int{1}, sized(501), api.ErrMany},
		{"1499 nodes", imp, []int{1}, sized(999), api.ErrMany},
		{"1000 for a part of 499", imp, []int{0}, sized(998), api.OK},
		{"1001 for a part of 499", imp, []int{0}, sized(999), api.ErrMany},
		{"1000 nodes of terms", node(api.App, 0, v(), v()), []int{1}, sizedTerm(998), api.OK},
		{"1001 nodes of terms", node(api.App, 0, v(), v()), []int{1}, sizedTerm(999), api.ErrMany},
		{"100 nested", nested(50, atom), zeros(50), nested(49, atom), api.OK},
		{"101 nested", nested(50, atom), zeros(50), nested(50, atom), api.ErrDeep},
		{"150 nested", nested(50, atom), zeros(50), nested(99, atom), api.ErrDeep},
		{"100 nested, in place of a deep part", nested(99, atom), zeros(1), nested(98, atom), api.OK},
		{"101 nested, in place of a deep part", nested(99, atom), zeros(1), nested(99, atom), api.ErrDeep},
		{"the deepest node", nested(99, atom), zeros(99), v(), api.ErrSort},
		{"the deepest node, an atom", nested(99, atom), zeros(99), node(api.Atom, 1), api.OK},
		{"the deepest node, an argument", nested(99, atom), zeros(99), p(), api.ErrDeep},
		{"below the deepest node", nested(99, atom), zeros(100), p(), api.ErrPath},
		{"too many and too deep", node(api.Imp, 0, sized(900), nested(50, atom)), append([]int{1}, zeros(50)...), node(api.Imp, 0, nested(60, atom), sized(900)), api.ErrMany},
	} {
		got, fault := Put(c.e, c.path, c.x)
		if fault != c.want || fault != api.OK && !isZero(got) || fault == api.OK && Right(got) != api.OK {
			t.Errorf("%s: %d; want %d", c.name, fault, c.want)
		}
	}
}

// places returns the paths of all parts of e.
func places(e api.Expr) [][]int {
	paths := [][]int{nil}
	for i, kid := range e.Kids {
		for _, rest := range places(kid) {
			paths = append(paths, append([]int{i}, rest...))
		}
	}
	return paths
}

// part and with are At and Put by the words of P2.7.
func part(e api.Expr, path []int) api.Expr {
	if len(path) == 0 {
		return e
	}
	return part(e.Kids[path[0]], path[1:])
}

func with(e api.Expr, path []int, x api.Expr) api.Expr {
	if len(path) == 0 {
		return copyOf(x)
	}
	e = copyOf(e)
	e.Kids[path[0]] = with(e.Kids[path[0]], path[1:], x)
	return e
}

// P2.7, P2.9: what Put inserts, At returns at the same path; all else stays.
func TestPutAndAt(t *testing.T) {
	r := rand.New(rand.NewSource(5))
	for range 150 {
		e := randomFormula(r, 4)
		for _, path := range places(e) {
			old, fault := At(e, path)
			if fault != api.OK || !equal(old, part(e, path)) {
				t.Fatalf("At(%v, %v) = %v, %d", e, path, old, fault)
			}
			x := randomFormula(r, 2)
			if old.Kind <= api.App {
				x = randomTerm(r, 2)
			}
			changed, fault := Put(e, path, x)
			if fault != api.OK || !equal(changed, with(e, path, x)) {
				t.Fatalf("Put(%v, %v, %v) = %v, %d", e, path, x, changed, fault)
			}
			if back, fault := At(changed, path); fault != api.OK || !equal(back, x) {
				t.Fatalf("At(%v, %v) = %v, %d", changed, path, back, fault)
			}
			if back, fault := Put(changed, path, old); fault != api.OK || !equal(back, e) {
				t.Fatalf("Put(%v, %v, %v) = %v, %d", changed, path, old, back, fault)
			}
		}
	}
}

// R4: results are new memory, also where the arguments share theirs.
func TestPartsAnew(t *testing.T) {
	e := roomy(q())
	x := e.Kids[0]
	shared := node(api.Imp, 0, e, e)
	for _, whole := range []api.Expr{e, shared} {
		noted := map[*api.Expr]bool{}
		note(noted, whole)
		for _, path := range places(whole) {
			got, _ := At(whole, path)
			claim(t, noted, got)
			if got.Kind <= api.App {
				continue
			}
			got, fault := Put(whole, path, x)
			if fault != api.OK {
				t.Fatal(fault)
			}
			claim(t, noted, got)
		}
	}
	untouched(t, e)
	if !equal(e, q()) {
		t.Error("q is changed")
	}
}

// R4: what was inserted may be changed afterwards.
func TestPutKeepsNothing(t *testing.T) {
	e, x := q(), n()
	got, _ := Put(e, []int{0}, x)
	e.Kids[0] = p()
	x.Kids[0] = node(api.Atom, 9)
	if !equal(got, q()) {
		t.Errorf("%v", got)
	}
}
