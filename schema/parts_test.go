package schema

import (
	"math/rand"
	"slices"
	"testing"

	"organon/api"
	"organon/expr"
	"organon/samples"
)

// splits fails unless Parts returns want, or nothing and the wanted error.
func splits(t *testing.T, k int, e api.Expr, want api.Parts, wanted api.Errno) {
	t.Helper()
	got, fault := Parts(k, e)
	if fault != wanted || !equalParts(got, want) {
		t.Errorf("Parts(%d, %s) = %q, %d; want %q, %d", k, text(e), told(got), fault, told(want), wanted)
	}
}

// is fails unless Is returns want and the wanted error.
func is(t *testing.T, k int, e api.Expr, want bool, wanted api.Errno) {
	t.Helper()
	if got, fault := Is(k, e); got != want || fault != wanted {
		t.Errorf("Is(%d, %s) = %v, %d; want %v, %d", k, text(e), got, fault, want, wanted)
	}
}

// instance fails unless all that says whether e is an instance of schema k says want.
func instance(t *testing.T, k int, e api.Expr, want bool) {
	t.Helper()
	is(t, k, e, want, api.OK)
	if list, fault := Which(e); fault != api.OK || slices.Contains(list, k) != want {
		t.Errorf("Which(%s) = %v, %d; want %d in it: %v", text(e), list, fault, k, want)
	}
	if !want {
		splits(t, k, e, api.Parts{}, api.ErrNot)
	}
}

// which fails unless Which returns want, or nothing and the wanted error.
func which(t *testing.T, e api.Expr, want []int, wanted api.Errno) {
	t.Helper()
	if got, fault := Which(e); !slices.Equal(got, want) || fault != wanted {
		t.Errorf("Which(%s) = %v, %d; want %v, %d", text(e), got, fault, want, wanted)
	}
}

// P7.2, P7.3: the rows of the examples, and those of the whole (example 7).
func TestPartsExamples(t *testing.T) {
	which(t, read(t, "(P0 > (P1 > P0))"), []int{1}, api.OK)
	which(t, read(t, "(x0 = x0 > (P0 > P0))"), []int{7}, api.OK)
	which(t, read(t, "x1 = x1"), []int{6}, api.OK)
	which(t, read(t, "P0"), nil, api.OK)
	splits(t, 4, read(t, "(@x0 P0(x0) > P0(f0))"), parts(t, 0, "P0(x0)", "f0"), api.OK)
	splits(t, 4, read(t, "(@x0 P1 > P1)"), parts(t, 0, "P1", "x0"), api.OK)
	is(t, 4, read(t, "(@x0 P0(x0) > P0(f0))"), true, api.OK)
	is(t, 4, read(t, "(@x0 @x1 P0(x0, x1) > @x1 P0(x1, x1))"), false, api.OK)
	is(t, 5, read(t, "(@x0 (P0 > P1(x0)) > (P0 > @x0 P1(x0)))"), true, api.OK)
	is(t, 8, read(t, "P0"), false, api.ErrSchema)
	is(t, 7, read(t, "(x0 = x1 > (P0(x0, x0) > P0(x0, x1)))"), true, api.OK)
	is(t, 7, read(t, "(x0 = x1 > (@x1 P0(x0) > @x1 P0(x1)))"), false, api.OK)
}

// P7.2, P7.3: instances, and their parts.
func TestParts(t *testing.T) {
	for _, s := range instances() {
		want, e := s.read(t)
		if s.k == 4 && !isFree(s.x, want.List[0]) {
			want.List[1] = samples.Variable(s.x)
		}
		splits(t, s.k, e, want, api.OK)
		instance(t, s.k, e, true)
	}
}

// P7.2, P7.3: formulas that are nearly instances.
func TestNoParts(t *testing.T) {
	for k, list := range [][]string{
		1: {
			"P0", "!P0", "@x0 P0", "(P0 > P0)", "(P0 > (P1 > P2))", "(P0 & (P1 > P0))", "(P0 | (P1 > P0))", "(P0 > (P1 & P0))",
			"!(P0 > (P1 > P0))", "(P0 > !(P1 > P0))", "((P1 > P0) > P0)", "(P0(x0) > (P1 > P0(x1)))", "(@x0 P0(x0) > (P1 > @x1 P0(x1)))",
			"(x0 = x1 > (P1 > x1 = x0))",
		},
		2: {
			"P0", "((P0 > (P1 > P2)) > ((P0 > P1) > (P0 > P1)))", "((P0 > (P1 > P2)) > ((P0 > P2) > (P0 > P2)))",
			"((P0 > (P1 > P2)) > ((P0 > P1) > (P1 > P2)))", "((P0 > (P1 > P2)) > ((P1 > P1) > (P0 > P2)))",
			"((P0 > (P1 & P2)) > ((P0 > P1) > (P0 > P2)))", "((P0 > (P1 > P2)) & ((P0 > P1) > (P0 > P2)))",
			"((P0 | (P1 > P2)) > ((P0 > P1) > (P0 > P2)))", "((P0 > (P1 > P2)) > ((P0 > P1) > (P0 & P2)))",
			"((P0 > (P1 > P2)) > ((P0 & P1) > (P0 > P2)))", "((P0 > (P1 > P2)) > ((P0 > P1) | (P0 > P2)))", "((P0 > P1) > (P0 > P1))",
			"(((P0 > P1) > P2) > ((P0 > P1) > (P0 > P2)))",
		},
		3: {
			"P0", "((!P0 > !P1) > (P0 > P1))", "((P0 > P1) > (!P1 > !P0))", "((!P0 > P1) > (P1 > P0))", "((P0 > !P1) > (P1 > P0))",
			"((!P0 > !P1) > (!P1 > !P0))", "((!P0 > !P1) & (P1 > P0))", "((!P0 & !P1) > (P1 > P0))", "((!P0 > !P1) > (P1 & P0))",
			"((@x0 P0 > @x0 P1) > (P1 > P0))", "((!P0 > !P1) > (P1 > P2))", "((!P0 > !P1) > (P2 > P0))",
		},
		4: {
			"P0", "@x0 P0(x0)", "!@x0 P0(x0)", "(@x0 P0(x0) & P0(f0))", "(?x0 P0(x0) > P0(f0))", "(@x0 P0(x0) > P1(f0))", "(@x0 P0(x0) > P0)",
			"(@x0 P0(x0, x0) > P0(f0, f1))", "(@x0 P0(x0, x1) > P0(f0, x2))", "(@x0 P0(x1) > P0(f0))", "(@x0 P0 > P1)", "(@x0 P0 > @x0 P0)",
			"(@x0 P0(x0) > (P0(f0) > P0))", "(@x0 (P0(x0) > @x0 P0(x0)) > (P0(f0) > @x0 P0(f0)))", "(@x0 @x0 P0(x0) > @x0 P0(f0))",
			"(@x0 @x1 P0(x0) > @x1 P0(x1))", "(@x0 @x1 P0(x0) > @x1 P0(f0(x2, x1)))", "(@x0 @x1 P0(x0, x1) > @x2 P0(x1, x2))",
			"(@x0 (P0(x0) > @x1 P0(x0)) > (P0(x1) > @x1 P0(x1)))", "(@x0 P0(x0) > !P1)", "(!P0(x0) > P0(x0))", "(x0 = x0 > x0 = x0)",
			"(f99(x0) = x0 > f99(x0) = x0)", "(P99(x0) > P99(x0))", "(@x0 P0(x0) > @x0 P0(x0))", "(@x0 P0(f0(x0)) > P0(f1(f0)))",
			"(P0 > @x0 P0)", "(@x0 !P0(x0) > !!P0(x0))",
		},
		5: {
			"P0", "(@x0 (P0(x0) > P1(x0)) > (P0(x0) > @x0 P1(x0)))", "(@x0 (P0 > P1(x0)) > (P0 > @x1 P1(x0)))",
			"(@x0 (P0 > P1(x0)) > (P0 > @x1 P1(x1)))", "(@x0 (P0 > P1(x0)) > (P0 > P1(x0)))", "(?x0 (P0 > P1(x0)) > (P0 > ?x0 P1(x0)))",
			"(@x0 (P0 > P1(x0)) > (P0 > ?x0 P1(x0)))", "(?x0 (P0 > P1(x0)) > (P0 > @x0 P1(x0)))", "(@x0 (P0 & P1(x0)) > (P0 > @x0 P1(x0)))",
			"(@x0 (P0 > P1(x0)) > (P0 & @x0 P1(x0)))", "(@x0 (P0 > P1(x0)) & (P0 > @x0 P1(x0)))", "(@x0 (P0 > P1) > (P2 > @x0 P1))",
			"(@x0 (P0 > P1) > (P0 > @x0 P2))", "(f99(f0(x0, x1)) = x0 > P0)", "f99(f0(x0, x1)) = x0", "((P0 > P1) > (P0 > P1))",
			"(@x1 (P0(x1) > P1(x0)) > (P0(x1) > @x1 P1(x0)))", "(!(P0 > P1) > (P0 > !P1))",
		},
		6: {
			"P0", "x0 = x1", "f0(x0) = f0(x1)", "f0 = f0(f0)", "x0 = f0", "P0(x0, x0)", "!x0 = x0", "(P0 > P0)", "(P0 & P0)", "@x0 x0 = x0",
		},
		7: {
			"P0", "(P0 > (P0 > P0))", "(x0 = x1 > P0)", "(x0 = x1 > (P0(x1) > P0(x0)))", "(x0 = x1 > (P0(x0) > P0(x2)))", "x0 = x1",
			"(x0 = x1 & (P0(x0) > P0(x1)))", "(x0 = x1 > (P0(x0) & P0(x1)))", "(!x0 = x1 > (P0(x0) > P0(x1)))", "(P1(x0, x1) > (P0(x0) > P0(x1)))",
			"(x0 = x1 > (P0(x0) > P1(x1)))", "(x0 = x1 > (?x0 P0(x0) > ?x0 P0(x1)))", "(f0(x0) = f1 > (@x0 P0(f0(x0)) > @x0 P0(f1)))",
			"(x0 = x1 > (P0 > !P0))", "((P0 > P1) > (P2 > P2))",
		},
	} {
		for _, s := range list {
			instance(t, k, read(t, s), false)
		}
	}
}

// P7.2: where x is not free in A, it is the term, whatever else is called A's instance.
func TestPartsWithoutFree(t *testing.T) {
	for _, s := range []string{"P0", "P0(x1)", "@x0 P0(x0)", "?x1 @x0 P0(x0, x1)", "x1 = f0(x62)", "(@x0 P0(x0) > @x0 !P0(x0))"} {
		splits(t, 4, read(t, "(@x0 "+s+" > "+s+")"), parts(t, 0, s, "x0"), api.OK)
		splits(t, 4, read(t, "(@x63 "+s+" > "+s+")"), parts(t, 63, s, "x63"), api.OK)
	}
}

// P7.3: instances of two schemas.
func TestWhichSeveral(t *testing.T) {
	for s, want := range map[string][]int{
		"(x0 = x1 > (x0 = x1 > x0 = x1))":     {1, 7},
		"(x0 = x1 > (x0 = x0 > x0 = x1))":     {1, 7},
		"(x0 = x1 > (x1 = x1 > x0 = x1))":     {1},
		"(x0 = x1 > (x0 = x1 > x1 = x1))":     {7},
		"(P0 > (P0 > P0))":                    {1},
		"((P0 > (P0 > P0)) > (P1 > P1))":      nil,
		"(@x0 P0 > (P1 > @x0 P0))":            {1},
		"(f0 = f0 > (P0(f0) > P0(f0)))":       {7},
		"(@x0 (P0 > P0) > (P0 > P0))":         {4},
		"(@x0 (P0 > @x0 P0) > (P0 > @x0 P0))": {4},
	} {
		which(t, read(t, s), want, api.OK)
	}
}

// P7.2, P7.3, R3, R8: first the number, then the error of e, then that it is a term.
func TestPartsWrong(t *testing.T) {
	refused := func(k int, e api.Expr, want api.Errno) {
		t.Helper()
		splits(t, k, e, api.Parts{}, want)
		is(t, k, e, false, want)
	}
	for _, w := range samples.Wrong() {
		which(t, w.Expr, nil, w.Code)
		for _, k := range numbers() {
			refused(k, w.Expr, w.Code)
		}
		for _, k := range strangers() {
			refused(k, w.Expr, api.ErrSchema)
		}
	}
	for _, s := range []string{"x0", "x63", "f0", "f0(x0, x0)"} {
		which(t, read(t, s), nil, api.ErrSort)
		for _, k := range numbers() {
			refused(k, read(t, s), api.ErrSort)
		}
	}
	for _, k := range strangers() {
		refused(k, read(t, "(P0 > (P1 > P0))"), api.ErrSchema)
		refused(k, read(t, "x0"), api.ErrSchema)
	}
}

// P7.2, P7.3: as the words say it, for arbitrary instances and what becomes of them by a change.
func TestPartsByWords(t *testing.T) {
	r := rand.New(rand.NewSource(72))
	for _, k := range numbers() {
		instances, others := 0, 0
		for range 500 {
			e := byTable(k, anyParts(r, k))
			if r.Intn(2) == 0 {
				e = altered(r, e)
			}
			if expr.Size(e) > 26 {
				continue
			}
			found := partsByWords(k, e)
			if k == 4 && anyTermDoes(e) {
				found = []api.Parts{{List: []api.Expr{e.Kids[1], samples.Variable(e.Kids[0].Id)}, Var: e.Kids[0].Id}}
			}
			instance(t, k, e, len(found) > 0)
			switch len(found) {
			case 0:
				others++
			case 1:
				instances++
				splits(t, k, e, found[0], api.OK)
			default:
				t.Errorf("schema %d, %s: %d parts", k, text(e), len(found))
			}
		}
		if instances < 100 || others < 50 {
			t.Errorf("schema %d: %d instances and %d others", k, instances, others)
		}
	}
}

// anyTermDoes reports whether e is (@x A > A) where x is not free in A: an instance of schema 4 with any term.
func anyTermDoes(e api.Expr) bool {
	return e.Kind == api.Imp && e.Kids[0].Kind == api.All && expr.Same(e.Kids[0].Kids[0], e.Kids[1]) &&
		!isFree(e.Kids[0].Id, e.Kids[1])
}

// P7.3: Which says the same as Is, for arbitrary formulas.
func TestWhichAgrees(t *testing.T) {
	for _, e := range samples.All(rand.New(rand.NewSource(73)), 500) {
		if !expr.IsFormula(e) {
			continue
		}
		var want []int
		for _, k := range numbers() {
			if yes, _ := Is(k, e); yes {
				want = append(want, k)
			}
		}
		which(t, e, want, api.OK)
	}
}
