package schema

import (
	"math"
	"math/rand"
	"strings"
	"testing"

	"organon/api"
	"organon/expr"
	"organon/samples"
)

// makes fails unless Make returns want, or nothing and the wanted error.
func makes(t *testing.T, k int, p api.Parts, want api.Expr, wanted api.Errno) {
	t.Helper()
	got, fault := Make(k, p)
	if fault != wanted || wanted == api.OK && !expr.Same(got, want) || wanted != api.OK && !samples.IsZero(got) {
		t.Errorf("Make(%d, %q) = %s, %d; want %s, %d", k, told(p), text(got), fault, text(want), wanted)
	}
}

// refuses fails unless Make returns nothing and the wanted error.
func refuses(t *testing.T, k int, p api.Parts, wanted api.Errno) {
	t.Helper()
	makes(t, k, p, api.Expr{}, wanted)
}

// P7.1: the row of the examples.
func TestMakeExamples(t *testing.T) {
	refuses(t, 5, parts(t, 0, "P0(x0)", "P1"), api.ErrSide)
	refuses(t, 1, parts(t, 0, "P0"), api.ErrParts)
	refuses(t, 6, parts(t, 0, "P0"), api.ErrSort)
	refuses(t, 6, parts(t, 1, "x0"), api.ErrParts)
}

// sample is an instance of a schema and its parts, separated by semicolons.
type sample struct {
	k        int
	parts    string
	x        int
	instance string
}

func (s sample) read(t *testing.T) (api.Parts, api.Expr) {
	t.Helper()
	return parts(t, s.x, strings.Split(s.parts, "; ")...), read(t, s.instance)
}

func instances() []sample {
	return []sample{
		{1, "P0; P1", 0, "(P0 > (P1 > P0))"},
		{1, "P0; P0", 0, "(P0 > (P0 > P0))"},
		{1, "(P0(x0) & ?x1 P1(x1)); x0 = f0", 0, "((P0(x0) & ?x1 P1(x1)) > (x0 = f0 > (P0(x0) & ?x1 P1(x1))))"},
		{2, "P0; P1; P2", 0, "((P0 > (P1 > P2)) > ((P0 > P1) > (P0 > P2)))"},
		{2, "@x0 P0; (P1 | P2); !P2", 0, "((@x0 P0 > ((P1 | P2) > !P2)) > ((@x0 P0 > (P1 | P2)) > (@x0 P0 > !P2)))"},
		{3, "P0; P1", 0, "((!P0 > !P1) > (P1 > P0))"},
		{3, "!P0; x0 = x1", 0, "((!!P0 > !x0 = x1) > (x0 = x1 > !P0))"},
		{4, "P0(x0); f0", 0, "(@x0 P0(x0) > P0(f0))"},
		{4, "P0(x0, x1, x0); f1(x2)", 0, "(@x0 P0(x0, x1, x0) > P0(f1(x2), x1, f1(x2)))"},
		{4, "P0(x63); x63", 63, "(@x63 P0(x63) > P0(x63))"},
		{4, "P0(x0); f0(x0, x0)", 0, "(@x0 P0(x0) > P0(f0(x0, x0)))"},
		{4, "P1; f3(x5)", 2, "(@x2 P1 > P1)"},
		{4, "P0(x0); x0", 1, "(@x1 P0(x0) > P0(x0))"},
		// Bound occurrences stay, and a quantifier that is not around a free one captures nothing.
		{4, "(@x0 P0(x0) > P0(x0)); f0", 0, "(@x0 (@x0 P0(x0) > P0(x0)) > (@x0 P0(x0) > P0(f0)))"},
		{4, "(@x1 P0(x1) > P0(x0)); x1", 0, "(@x0 (@x1 P0(x1) > P0(x0)) > (@x1 P0(x1) > P0(x1)))"},
		{4, "@x1 @x0 P0(x0, x1); x1", 0, "(@x0 @x1 @x0 P0(x0, x1) > @x1 @x0 P0(x0, x1))"},
		{4, "@x1 P0(x0); f0(x2)", 0, "(@x0 @x1 P0(x0) > @x1 P0(f0(x2)))"},
		{5, "P0; P1(x0)", 0, "(@x0 (P0 > P1(x0)) > (P0 > @x0 P1(x0)))"},
		{5, "P0; P1", 63, "(@x63 (P0 > P1) > (P0 > @x63 P1))"},
		{5, "P0(x1); P1(x0)", 0, "(@x0 (P0(x1) > P1(x0)) > (P0(x1) > @x0 P1(x0)))"},
		// x may be bound in A.
		{5, "?x0 P0(x0); P1(x0)", 0, "(@x0 (?x0 P0(x0) > P1(x0)) > (?x0 P0(x0) > @x0 P1(x0)))"},
		{6, "x0", 0, "x0 = x0"},
		{6, "f0(f1, x63)", 0, "f0(f1, x63) = f0(f1, x63)"},
		{7, "x0; x1; P0(x0, x0); P0(x0, x1)", 0, "(x0 = x1 > (P0(x0, x0) > P0(x0, x1)))"},
		{7, "f0; f1; P0; P0", 0, "(f0 = f1 > (P0 > P0))"},
		{7, "f0(x2); x1; @x0 f0(x2) = x0; @x0 x1 = x0", 0, "(f0(x2) = x1 > (@x0 f0(x2) = x0 > @x0 x1 = x0))"},
	}
}

// P7.1: instances of each schema, and byTable, which other tests take for the table.
func TestMake(t *testing.T) {
	for _, s := range instances() {
		p, want := s.read(t)
		makes(t, s.k, p, want, api.OK)
		if e := byTable(s.k, p); !expr.Same(e, want) {
			t.Errorf("schema %d with %q is taken for %s; want %s", s.k, told(p), text(e), s.instance)
		}
	}
}

// P7.1: ErrSide, for the schemas with a side condition.
func TestMakeSide(t *testing.T) {
	for _, c := range []struct {
		k, x  int
		parts string
	}{
		{4, 0, "@x1 P0(x0); x1"},
		{4, 0, "?x1 P0(x0); f0(f1, x1)"},
		{4, 62, "!(P0 > ?x63 P0(x63, x62)); f0(x63)"},
		{4, 0, "@x1 @x2 P0(x0); x1"},
		{4, 0, "@x1 @x2 P0(x0); x2"},
		{4, 0, "(P0(x0) > @x1 P0(x0)); x1"},
		{5, 0, "P0(x0); P1"},
		{5, 63, "(P0 > @x62 P0(f0(x63))); P1"},
		{5, 0, "(@x0 P0(x0) > P0(x0)); P1"},
		{7, 0, "x0; x1; P0(x0); P0(x2)"},
		{7, 0, "x0; x1; P0(x1); P0(x0)"},
		{7, 0, "x0; x1; @x1 P0(x0); @x1 P0(x1)"},
		{7, 0, "x0; x1; P0; P1"},
	} {
		refuses(t, c.k, parts(t, c.x, strings.Split(c.parts, "; ")...), api.ErrSide)
	}
}

// right returns valid parts for schema k, with which the side condition holds.
func right(t *testing.T, k int) api.Parts {
	for _, s := range instances() {
		if s.k == k {
			p, _ := s.read(t)
			return p
		}
	}
	t.Fatal(k)
	return api.Parts{}
}

// P7.1, R3: ErrSchema comes first.
func TestMakeNoSchema(t *testing.T) {
	for _, k := range strangers() {
		for _, of := range numbers() {
			refuses(t, k, right(t, of), api.ErrSchema)
		}
		refuses(t, k, api.Parts{}, api.ErrSchema)
		refuses(t, k, api.Parts{List: []api.Expr{samples.Looped(), {}}, Var: -1}, api.ErrSchema)
	}
}

// P7.1, R3, R11: ErrParts comes next, whatever the parts are.
func TestMakeOtherParts(t *testing.T) {
	for _, k := range numbers() {
		p := right(t, k)
		refuses(t, k, api.Parts{}, api.ErrParts)
		refuses(t, k, api.Parts{List: p.List[1:], Var: p.Var}, api.ErrParts)
		refuses(t, k, api.Parts{List: append(p.List[:len(p.List):len(p.List)], p.List[0]), Var: p.Var}, api.ErrParts)
		refuses(t, k, api.Parts{List: make([]api.Expr, 1<<20), Var: p.Var}, api.ErrParts)
		bad := make([]api.Expr, len(p.List))
		for i := range bad {
			bad[i] = samples.Looped()
		}
		for _, x := range samples.Outside() {
			refuses(t, k, api.Parts{List: p.List, Var: x}, api.ErrParts)
			refuses(t, k, api.Parts{List: bad, Var: x}, api.ErrParts)
		}
		for _, x := range []int{1, 62, 63} {
			if !hasVariable(k) {
				refuses(t, k, api.Parts{List: p.List, Var: x}, api.ErrParts)
				refuses(t, k, api.Parts{List: bad, Var: x}, api.ErrParts)
			}
		}
	}
}

// P7.1, R8: the first part that is not valid, whatever the sorts of the others are.
func TestMakeWrongParts(t *testing.T) {
	for _, k := range numbers() {
		for i := range right(t, k).List {
			for _, w := range samples.Wrong() {
				p := right(t, k)
				p.List[i] = w.Expr
				refuses(t, k, p, w.Code)
				for j := range i {
					p.List[j] = otherSort(k, j)
				}
				refuses(t, k, p, w.Code)
				for j := i + 1; j < len(p.List); j++ {
					for _, other := range samples.Wrong() {
						p.List[j] = other.Expr
						refuses(t, k, p, w.Code)
					}
				}
			}
		}
	}
}

// otherSort returns a valid expression that is not of the sort of a part.
func otherSort(k, i int) api.Expr {
	if isTerm(k)[i] {
		return node(api.Atom, 0)
	}
	return node(api.App, 0)
}

// P7.1, R8: a part that is not of its sort, ahead of the side condition and of what would be too large.
func TestMakeSorts(t *testing.T) {
	for _, k := range numbers() {
		for i := range right(t, k).List {
			p := right(t, k)
			for _, s := range []string{"x0", "x63", "f0", "f0(x0)", "P0", "P0(x0)", "x0 = x0", "!P0", "(P0 > P0)", "(P0 & P0)", "(P0 | P0)", "@x1 P0", "?x1 P0"} {
				p.List[i] = read(t, s)
				if expr.IsTerm(p.List[i]) != isTerm(k)[i] {
					refuses(t, k, p, api.ErrSort)
				}
			}
		}
	}
	refuses(t, 5, parts(t, 0, "P0(x0)", "f0"), api.ErrSort)
	refuses(t, 4, parts(t, 0, "x0", "f0"), api.ErrSort)
	refuses(t, 7, parts(t, 0, "x0", "x1", "P0(x0)", "f0"), api.ErrSort)
	refuses(t, 1, api.Parts{List: []api.Expr{sized(1000), node(api.App, 0)}}, api.ErrSort)
}

// P7.1, R3: ErrSide comes ahead of ErrMany and ErrDeep.
func TestMakeSideFirst(t *testing.T) {
	many, deep := sized(1000), within(99, api.Not, 0, node(api.Atom, 0))
	for _, large := range []api.Expr{many, deep} {
		refuses(t, 5, api.Parts{List: []api.Expr{read(t, "P0(x0)"), large}}, api.ErrSide)
		refuses(t, 7, api.Parts{List: []api.Expr{read(t, "x0"), read(t, "x1"), large, node(api.Atom, 0)}}, api.ErrSide)
	}
	captured := within(98, api.All, 1, read(t, "P0(x0)"))
	refuses(t, 4, api.Parts{List: []api.Expr{captured.Kids[0], read(t, "x1")}}, api.ErrSide)
	refuses(t, 4, api.Parts{List: []api.Expr{captured, samples.Node(api.App, 0, samples.SizedTerm(900), read(t, "x1"))}}, api.ErrSide)
}

// limit is what becomes of some parts at the limits.
type limit struct {
	name string
	k    int
	list []api.Expr
	want api.Errno
}

func limits() []limit {
	f, u := sized, samples.SizedTerm
	tall := func(depth int) api.Expr { return within(depth-1, api.Not, 0, node(api.Atom, 0)) }
	high := func(depth int) api.Expr { return within(depth-1, api.App, 0, node(api.App, 0)) }
	of := func(list ...api.Expr) []api.Expr { return list }
	x := samples.Variable(0)
	// A formula of so many nodes in which x0 is free at the given depth, once.
	at := func(depth, count int) api.Expr {
		return within(depth-3, api.Not, 0, node(api.Imp, 0, node(api.Atom, 0, x), f(count-depth)))
	}
	bound := node(api.And, 0, node(api.Atom, 0, x), node(api.All, 0, node(api.Atom, 0, x, x, x, x)))
	return []limit{
		{"1000 nodes", 1, of(f(300), f(398)), api.OK},
		{"1001 nodes", 1, of(f(300), f(399)), api.ErrMany},
		{"1000 nodes", 2, of(f(100), f(200), f(147)), api.OK},
		{"1001 nodes", 2, of(f(101), f(200), f(146)), api.ErrMany},
		{"999 nodes", 3, of(f(300), f(197)), api.OK},
		{"1001 nodes", 3, of(f(300), f(198)), api.ErrMany},
		{"1000 nodes", 4, of(f(499), u(1)), api.OK},
		{"1000 nodes, x not free, a great term", 4, of(f(499), u(1000)), api.OK},
		{"1002 nodes", 4, of(f(500), u(1)), api.ErrMany},
		{"1000 nodes by the term", 4, of(at(5, 400), u(199)), api.OK},
		{"1001 nodes by the term", 4, of(at(5, 400), u(200)), api.ErrMany},
		{"999 nodes", 5, of(f(297), f(200)), api.OK},
		{"1001 nodes", 5, of(f(298), f(200)), api.ErrMany},
		{"999 nodes", 6, of(u(499)), api.OK},
		{"1001 nodes", 6, of(u(500)), api.ErrMany},
		{"1000 nodes", 7, of(u(100), u(297), f(300), f(300)), api.OK},
		{"1001 nodes", 7, of(u(100), u(298), f(300), f(300)), api.ErrMany},
		{"depth 100", 1, of(tall(98), tall(98)), api.OK},
		{"depth 101 by A", 1, of(tall(99), tall(1)), api.ErrDeep},
		{"depth 101 by B", 1, of(tall(1), tall(99)), api.ErrDeep},
		{"depth 100", 2, of(tall(97), tall(97), tall(97)), api.OK},
		{"depth 101 by A", 2, of(tall(98), tall(1), tall(1)), api.ErrDeep},
		{"depth 101 by B", 2, of(tall(1), tall(98), tall(1)), api.ErrDeep},
		{"depth 101 by C", 2, of(tall(1), tall(1), tall(98)), api.ErrDeep},
		{"depth 100", 3, of(tall(97), tall(97)), api.OK},
		{"depth 101 by A", 3, of(tall(98), tall(1)), api.ErrDeep},
		{"depth 101 by B", 3, of(tall(1), tall(98)), api.ErrDeep},
		{"depth 100", 4, of(tall(98), high(100)), api.OK},
		{"depth 101", 4, of(tall(99), high(1)), api.ErrDeep},
		{"depth 100 by the term", 4, of(at(50, 60), high(50)), api.OK},
		{"depth 101 by the term", 4, of(at(50, 60), high(51)), api.ErrDeep},
		{"depth 102 by the term", 4, of(at(50, 60), high(52)), api.ErrDeep},
		{"1000 nodes and the result too deep", 4, of(at(50, 460), high(79)), api.ErrDeep},
		{"1001 nodes and the result too deep", 4, of(at(50, 460), high(80)), api.ErrMany},
		{"a great term, and x is bound mostly", 4, of(bound, u(800)), api.OK},
		{"depth 100", 5, of(tall(97), tall(97)), api.OK},
		{"depth 101 by A", 5, of(tall(98), tall(1)), api.ErrDeep},
		{"depth 101 by B", 5, of(tall(1), tall(98)), api.ErrDeep},
		{"depth 100", 6, of(high(99)), api.OK},
		{"depth 101", 6, of(high(100)), api.ErrDeep},
		{"depth 100", 7, of(high(98), high(98), tall(98), tall(98)), api.OK},
		{"depth 101 by t", 7, of(high(99), high(1), tall(1), tall(1)), api.ErrDeep},
		{"depth 101 by u", 7, of(high(1), high(99), tall(1), tall(1)), api.ErrDeep},
		{"depth 101 by A and B", 7, of(high(1), high(1), tall(99), tall(99)), api.ErrDeep},
		{"too many and too deep", 1, of(tall(99), f(900)), api.ErrMany},
	}
}

// P7.1, P7.2, R9: at the limits and beyond them.
func TestMakeLimits(t *testing.T) {
	for _, c := range limits() {
		p := api.Parts{List: c.list}
		want := byTable(c.k, p)
		if fault := expr.Right(want); fault != c.want {
			t.Errorf("schema %d, %s: the instance has %d; want %d", c.k, c.name, fault, c.want)
		}
		makes(t, c.k, p, want, c.want)
		if c.want == api.OK {
			instance(t, c.k, want, true)
		}
	}
}

// R1, R9: nothing is made that has a million nodes.
func TestMakeHuge(t *testing.T) {
	x, all := samples.Variable(0), node(api.Atom, 0)
	for range 4 {
		all.Kids = append(all.Kids, x)
	}
	all = samples.Doubled(7, all)
	for range 300 {
		refuses(t, 4, api.Parts{List: []api.Expr{all, samples.SizedTerm(1000)}}, api.ErrMany)
		refuses(t, 2, api.Parts{List: []api.Expr{sized(1000), sized(1000), sized(1000)}}, api.ErrMany)
	}
}

// P7.1: as the table says it, for arbitrary parts.
func TestMakeByTable(t *testing.T) {
	r := rand.New(rand.NewSource(71))
	for _, k := range numbers() {
		made := 0
		for range 2000 {
			p := anyParts(r, k)
			if !sideByWords(k, p) {
				refuses(t, k, p, api.ErrSide)
				continue
			}
			made++
			makes(t, k, p, byTable(k, p), api.OK)
		}
		if made < 500 || made == 2000 && (hasVariable(k) || k == 7) {
			t.Errorf("the side condition of schema %d holds for %d of the samples", k, made)
		}
	}
	refuses(t, math.MaxInt, anyParts(r, 1), api.ErrSchema)
}
