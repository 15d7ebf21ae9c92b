package expr

import (
	"math"
	"testing"

	"organon/api"
)

// P2.1: the rows of the examples.
func TestRightExamples(t *testing.T) {
	if got := Right(q()); got != api.OK {
		t.Errorf("Right(q) = %d", got)
	}
	for _, e := range []api.Expr{node(api.Not, 0, v()), node(api.Var, 64), node(api.Not, 1, p()), node(11, 0), {}} {
		if got := Right(e); got != api.ErrShape {
			t.Errorf("Right(%v) = %d", e, got)
		}
	}
	if got := Right(nested(101, p())); got != api.ErrDeep {
		t.Errorf("Right of 101 negations = %d", got)
	}
}

// P2.1, R1
func TestRight(t *testing.T) {
	for i, e := range valid() {
		if got := Right(e); got != api.OK {
			t.Errorf("valid %d: %d", i, got)
		}
	}
	for want, list := range wrong() {
		for i, e := range list {
			if got := Right(e); got != want {
				t.Errorf("wrong %d: %d; want %d", i, got, want)
			}
		}
	}
}

// allowed is the chapter's table, written out once more.
func allowed(kind, id int, kids []api.Expr) bool {
	terms := 0
	for _, kid := range kids {
		if kid.Kind == api.Var {
			terms++
		}
	}
	formulas := len(kids) - terms
	switch kind {
	case 1:
		return 0 <= id && id <= 63 && len(kids) == 0
	case 2, 3:
		return 0 <= id && id <= 99 && terms <= 4 && formulas == 0
	case 4:
		return id == 0 && terms == 2 && formulas == 0
	case 5:
		return id == 0 && terms == 0 && formulas == 1
	case 6, 8, 9:
		return id == 0 && terms == 0 && formulas == 2
	case 7, 10:
		return 0 <= id && id <= 63 && terms == 0 && formulas == 1
	}
	return false
}

// mixes returns all lists of up to most terms and formulas.
func mixes(most int) [][]api.Expr {
	lists := [][]api.Expr{nil}
	for from := 0; most > 0; most-- {
		upTo := len(lists)
		for _, l := range lists[from:upTo] {
			lists = append(lists, append(l[:len(l):len(l)], v()), append(l[:len(l):len(l)], p()))
		}
		from = upTo
	}
	return lists
}

// P2.1: every kind with Ids and Kids of all sorts.
func TestRightTable(t *testing.T) {
	kinds := []int{math.MinInt, -1, 0, 1, 2, 3, 4, 5, 6, 7, 8, 9, 10, 11, 12, 257, math.MaxInt}
	ids := []int{math.MinInt, -1, 0, 1, 62, 63, 64, 98, 99, 100, 256, 1 << 32, math.MaxInt}
	right := 0
	for _, kids := range mixes(6) {
		for _, kind := range kinds {
			for _, id := range ids {
				want := api.ErrShape
				if allowed(kind, id, kids) {
					want = api.OK
					right++
				}
				if got := Right(node(kind, id, kids...)); got != want {
					t.Fatalf("Right(%d, %d, %v) = %d; want %d", kind, id, kids, got, want)
				}
			}
		}
	}
	// Four of the Ids are up to 63, seven up to 99, and there are five lists of up to four terms.
	if right != 4+2*7*5+1+1+3+2*4 {
		t.Errorf("%d nodes are valid", right)
	}
}

// P2.1: a node that is wrong is found at every place.
func TestRightAtEveryPlace(t *testing.T) {
	wrongTerm, wrongFormula := node(api.Var, 64), node(api.Not, 1, p())
	for args := 1; args <= api.MaxArgs; args++ {
		for at := range args {
			for _, kind := range []int{api.App, api.Atom} {
				e := node(kind, 0)
				for range args {
					e.Kids = append(e.Kids, c())
				}
				if got := Right(e); got != api.OK {
					t.Fatalf("%v: %d", e, got)
				}
				e.Kids[at] = wrongTerm
				if got := Right(e); got != api.ErrShape {
					t.Errorf("%v: %d", e, got)
				}
			}
		}
	}
	for _, e := range []api.Expr{
		node(api.Eq, 0, wrongTerm, v()), node(api.Eq, 0, v(), wrongTerm),
		node(api.Not, 0, wrongFormula), node(api.All, 0, wrongFormula), node(api.Some, 0, wrongFormula),
		node(api.Imp, 0, wrongFormula, p()), node(api.Imp, 0, p(), wrongFormula),
		node(api.And, 0, wrongFormula, p()), node(api.And, 0, p(), wrongFormula),
		node(api.Or, 0, wrongFormula, p()), node(api.Or, 0, p(), wrongFormula),
		nested(97, wrongFormula), nested(98, node(api.Atom, 0, wrongTerm)),
	} {
		if got := Right(e); got != api.ErrShape {
			t.Errorf("%v: %d", e, got)
		}
	}
}

// P2.1: the limits, and which error comes first.
func TestRightLimits(t *testing.T) {
	atom := node(api.Atom, 0)
	for _, c := range []struct {
		name string
		e    api.Expr
		want api.Errno
	}{
		{"999 nodes", sized(999), api.OK},
		{"1000 nodes", sized(1000), api.OK},
		{"1001 nodes", sized(1001), api.ErrMany},
		{"1002 nodes", sized(1002), api.ErrMany},
		{"a term of 1000 nodes", sizedTerm(1000), api.OK},
		{"a term of 1001 nodes", sizedTerm(1001), api.ErrMany},
		{"99 nested", nested(98, atom), api.OK},
		{"100 nested", nested(99, atom), api.OK},
		{"101 nested", nested(100, atom), api.ErrDeep},
		{"a term of 100 nested", nestedTerm(99, v()), api.OK},
		{"a term of 101 nested", nestedTerm(100, v()), api.ErrDeep},
		{"1000 nested", nested(999, atom), api.ErrDeep},
		{"1001 nested", nested(1000, atom), api.ErrMany},
		{"101 nested, in the last kid", node(api.Imp, 0, atom, nested(99, atom)), api.ErrDeep},
		{"100 nested, in the last kid", node(api.Imp, 0, atom, nested(98, atom)), api.OK},
		{"1000 nodes, misshapen", node(api.Not, 1, sized(999)), api.ErrShape},
		{"1001 nodes, misshapen", node(api.Not, 1, sized(1000)), api.ErrMany},
		{"101 nested, misshapen at the top", node(api.Not, 1, nested(99, atom)), api.ErrDeep},
		{"101 nested, misshapen below", nested(100, v()), api.ErrDeep},
		{"too many behind a deep part", node(api.Imp, 0, nested(100, atom), sized(1000)), api.ErrMany},
		{"too deep behind a misshapen part", node(api.Imp, 0, v(), nested(100, atom)), api.ErrDeep},
		{"misshapen behind a large part", node(api.Imp, 0, sized(998), v()), api.ErrShape},
	} {
		if got := Right(c.e); got != c.want {
			t.Errorf("%s: %d; want %d", c.name, got, c.want)
		}
	}
}

// P2.3
func TestSorts(t *testing.T) {
	if !IsTerm(v()) || IsFormula(v()) || !IsFormula(q()) || IsTerm(q()) {
		t.Error("v and q")
	}
	for i, e := range valid() {
		if IsTerm(e) != (e.Kind <= api.App) || IsFormula(e) != (e.Kind > api.App) {
			t.Errorf("valid %d: %v, %v", i, IsTerm(e), IsFormula(e))
		}
	}
	for fault, list := range wrong() {
		for i, e := range list {
			if IsTerm(e) || IsFormula(e) {
				t.Errorf("wrong %d, %d", fault, i)
			}
		}
	}
}

// P2.3: each kind.
func TestSortOfEachKind(t *testing.T) {
	for _, e := range []api.Expr{node(api.Var, 63), node(api.App, 99), node(api.App, 0, v(), c(), v(), c())} {
		if !IsTerm(e) || IsFormula(e) {
			t.Errorf("%v is a term", e)
		}
	}
	for _, e := range []api.Expr{
		node(api.Atom, 0), node(api.Eq, 0, v(), v()), node(api.Not, 0, p()), node(api.Imp, 0, p(), p()), node(api.All, 0, p()),
		node(api.And, 0, p(), p()), node(api.Or, 0, p(), p()), node(api.Some, 0, p()),
	} {
		if IsTerm(e) || !IsFormula(e) {
			t.Errorf("%v is a formula", e)
		}
	}
}

// R4: whatever a call is given stays as it is.
func TestArgumentsStay(t *testing.T) {
	for _, e := range append(valid()[:60], misshapen()...) {
		given := roomy(e)
		path := append(make([]int, 0, 2), 0)
		Right(given)
		Size(given)
		Depth(given)
		IsTerm(given)
		IsFormula(given)
		Same(given, given)
		Compare(given, given)
		Encode(given)
		At(given, path)
		Put(given, path, given)
		for range All(given) {
		}
		if !equal(given, e) || path[0] != 0 || path[:2][1] != 0 {
			t.Fatalf("%v is changed", e)
		}
		untouched(t, given)
	}
}
