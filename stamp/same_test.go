package stamp

import (
	"math/rand"
	"slices"
	"testing"

	"organon/api"
	"organon/samples"
)

// same fails unless Same of the two lists is want, in both orders.
func same(t *testing.T, a, b []api.Told, want bool) {
	t.Helper()
	if Same(a, b) != want || Same(b, a) != want {
		t.Errorf("Same: %v and %v; want %v", Same(a, b), Same(b, a), want)
	}
}

// P11.2: each thing in which two elements may differ.
func TestSameElements(t *testing.T) {
	elements := []api.Told{
		silent(""), silent("a"), silent("b"), silent("aa"), silent("a\x00"),
		tells(t, "a", "P0"), tells(t, "b", "P0"), tells(t, "a", "P1"), tells(t, "a", "x0"), tells(t, "a", "f0"),
		tells(t, "a", "P0(x0)"), tells(t, "a", "P0(x1)"), tells(t, "a", "P0(x0, x0)"), tells(t, "a", "P0(x0, x1)"),
		tells(t, "a", "P0(f0)"), tells(t, "a", "!P0"), tells(t, "a", "!!P0"), tells(t, "a", "(P0 > P1)"), tells(t, "a", "(P1 > P0)"),
		tells(t, "a", "(P0 & P1)"), tells(t, "a", "!(P0 > !P1)"), tells(t, "a", "@x0 P0"), tells(t, "a", "@x1 P0"), tells(t, "a", "?x0 P0"),
		{Name: "a", Says: node(api.Atom, 0)}, {Name: "a", Says: node(0, 1)}, {Name: "a", Says: node(0, 0, api.Expr{})},
		{Name: "a", Is: true}, given("a", node(0, 1)), given("a", node(-1, 0)),
	}
	for i, a := range elements {
		for j, b := range elements {
			same(t, list(a), list(b), i == j)
			same(t, list(silent("c"), a), list(silent("c"), b), i == j)
			same(t, list(a, silent("c")), list(b, silent("c")), i == j)
		}
	}
}

// P11.2, R5: the lengths, and the order.
func TestSameLists(t *testing.T) {
	a, b := tells(t, "a", "P0"), silent("b")
	same(t, nil, nil, true)
	same(t, nil, []api.Told{}, true)
	same(t, list(a, b), list(a, b), true)
	same(t, list(a, a), list(a, a), true)
	for _, other := range [][]api.Told{nil, list(a), list(b), list(b, a), list(a, b, b), list(a, a), list(a, b, a)} {
		same(t, list(a, b), other, false)
	}
	same(t, list(silent("")), nil, false)
	same(t, list(api.Told{Says: api.Expr{Kids: []api.Expr{}}}), list(api.Told{}), true)
	same(t, list(given("a", api.Expr{Kind: api.Atom, Kids: []api.Expr{}})), list(tells(t, "a", "P0")), true)
}

// P11.2: the lists may be any ones, also longer than those that are valid.
func TestSameMany(t *testing.T) {
	a, b := many(1000), many(1000)
	same(t, a, b, true)
	b[999].Name = "0"
	same(t, a, b, false)
	same(t, a, b[:999], false)
	same(t, a[:999], b[:999], true)
}

// P11.2, R1: expressions that are not valid, very large ones and ones without an end among them.
func TestSameWrong(t *testing.T) {
	for i, v := range samples.Wrong() {
		for j, w := range samples.Wrong() {
			same(t, list(given("a", v.Expr)), list(given("a", w.Expr)), i == j)
			same(t, list(api.Told{Says: v.Expr}), list(api.Told{Says: w.Expr}), i == j)
		}
	}
}

// P11.2, R1: a list of Kids that stands in very many places is compared soon, and a difference is found in any of them.
func TestSameShared(t *testing.T) {
	p, q := node(api.Atom, 0), node(api.Atom, 1)
	for _, times := range []int{1, 2, 60, 1 << 12} {
		a, b := samples.Doubled(times, p), samples.Doubled(times, p)
		same(t, list(given("a", a)), list(given("a", b)), true)
		same(t, list(given("a", a)), list(given("a", samples.Doubled(times, q))), false)
		same(t, list(given("a", a)), list(given("a", samples.Doubled(times+1, p))), false)
		c := node(api.And, 0, samples.Doubled(times-1, p), samples.Doubled(times-1, q))
		same(t, list(given("a", a)), list(given("a", c)), false)
		same(t, list(given("a", c)), list(given("a", c)), true)
	}
	deep := func(e api.Expr) []api.Told { return list(given("a", samples.Within(1<<15, api.Not, 0, e))) }
	same(t, deep(p), deep(p), true)
	same(t, deep(p), deep(q), false)
	same(t, list(given("a", samples.Looped())), list(given("a", samples.Looped())), true)
	same(t, list(given("a", samples.Looped())), list(given("a", samples.Within(9, api.All, 0, samples.Looped()))), true)
	same(t, list(given("a", samples.Looped())), list(given("a", samples.Within(9, api.All, 1, samples.Looped()))), false)
}

// P11.2: two lists of Kids of which one is the beginning of the other one in memory.
func TestSameBeginnings(t *testing.T) {
	x, y, z := samples.Variable(0), samples.Variable(1), samples.Variable(2)
	on := func(kids []api.Expr) []api.Told {
		return list(given("a", node(api.Imp, 0, node(api.Atom, 0, kids[:1]...), node(api.Atom, 0, kids...))))
	}
	same(t, on([]api.Expr{x, y}), on([]api.Expr{x, y}), true)
	same(t, on([]api.Expr{x, y}), on([]api.Expr{x, z}), false)
}

// P11.2: arbitrary lists, and ones that differ from them in one node, against a comparison of all nodes.
func TestSameArbitrary(t *testing.T) {
	r := rand.New(rand.NewSource(2))
	differ := 0
	for range 3000 {
		a := anyTold(r)
		b := changed(r, a)
		same(t, a, b, equal(a, b))
		same(t, a, anew(a), true)
		if !equal(a, b) {
			differ++
		}
	}
	if differ < 1000 || differ > 2900 {
		t.Errorf("%d of 3000 differ", differ)
	}
}

// anew returns a copy of a list that shares no memory with it.
func anew(told []api.Told) []api.Told {
	copied := slices.Clone(told)
	for i := range copied {
		copied[i].Says = samples.Roomy(copied[i].Says)
	}
	return copied
}

// changed returns a copy of a list in which something arbitrary is changed, or nothing.
func changed(r *rand.Rand, told []api.Told) []api.Told {
	copied := anew(told)
	if len(copied) == 0 || r.Intn(6) == 0 {
		return append(copied, anyTold(r)...)
	}
	element := &copied[r.Intn(len(copied))]
	switch r.Intn(6) {
	case 0:
		element.Name = anyText(r)
	case 1:
		element.Is = !element.Is
	case 2:
		copied = copied[:len(copied)-1]
	default:
		part := &element.Says
		for len(part.Kids) > 0 && r.Intn(4) > 0 {
			part = &part.Kids[r.Intn(len(part.Kids))]
		}
		changePart(r, part)
	}
	return copied
}

func changePart(r *rand.Rand, part *api.Expr) {
	switch r.Intn(4) {
	case 0:
		part.Kind = r.Intn(12)
	case 1:
		part.Id = r.Intn(64)
	case 2:
		part.Kids = part.Kids[:r.Intn(len(part.Kids)+1)]
	case 3:
		part.Kids = append(slices.Clone(part.Kids), samples.Variable(r.Intn(2)))
	}
}
