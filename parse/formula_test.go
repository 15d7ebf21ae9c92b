package parse

import (
	"strings"
	"testing"

	"organon/api"
	"organon/expr"
)

type call func(string) (api.Expr, api.Errno, int)

// gives fails unless a call returns want for s.
func gives(t *testing.T, f call, s string, want api.Expr) {
	t.Helper()
	e, code, at := f(s)
	if !equal(e, want) || code != api.OK || at != 0 {
		t.Errorf("%q: %v, %d, %d; want %v", short(s), e, code, at, want)
	}
}

// refuses fails unless a call returns the error and the place for s.
func refuses(t *testing.T, f call, s string, code api.Errno, at int) {
	t.Helper()
	e, gotCode, gotAt := f(s)
	if !isZero(e) || gotCode != code || gotAt != at {
		t.Errorf("%q: %v, %d, %d; want %d, %d", short(s), e, gotCode, gotAt, code, at)
	}
}

// P3.2: the rows of the examples.
func TestFormulaExamples(t *testing.T) {
	gives(t, Formula, thirdText, third())
	for s, at := range map[string]int{"(P0 > P1": 8, "P0 P1": 3, "": 0, "P0()": 3, "x0": 2, "(x0 > P0)": 4, "P0(x0,x0,x0,x0,x0)": 14} {
		refuses(t, Formula, s, api.ErrToken, at)
	}
	gives(t, Term, "f0(x1)", node(api.App, 0, v(1)))
	refuses(t, Term, "P0", api.ErrToken, 0)
}

// P3.2: each way of the grammar.
func TestFormulaOfEachKind(t *testing.T) {
	q := node(api.Atom, 99)
	for s, want := range map[string]api.Expr{
		"P0":                      p(),
		"P99":                     q,
		"P0(x63)":                 node(api.Atom, 0, v(63)),
		"P1(x1, x2)":              node(api.Atom, 1, v(1), v(2)),
		"P1(x1, f0, x2)":          node(api.Atom, 1, v(1), c(), v(2)),
		"P1(x1, x2, x3, f1(f0))":  node(api.Atom, 1, v(1), v(2), v(3), node(api.App, 1, c())),
		"x1 = x2":                 node(api.Eq, 0, v(1), v(2)),
		"f0 = f9(x1, f0)":         node(api.Eq, 0, c(), node(api.App, 9, v(1), c())),
		"f9(f0, x1, f0, x2) = x3": node(api.Eq, 0, node(api.App, 9, c(), v(1), c(), v(2)), v(3)),
		"!P0":                     node(api.Not, 0, p()),
		"!!x1 = x2":               node(api.Not, 0, node(api.Not, 0, node(api.Eq, 0, v(1), v(2)))),
		"@x63 P0":                 node(api.All, 63, p()),
		"?x5 P0":                  node(api.Some, 5, p()),
		"@x1 x1 = x2":             node(api.All, 1, node(api.Eq, 0, v(1), v(2))),
		"@x1?x2!P0":               node(api.All, 1, node(api.Some, 2, node(api.Not, 0, p()))),
		"(P0 > P99)":              node(api.Imp, 0, p(), q),
		"(P0 & P99)":              node(api.And, 0, p(), q),
		"(P0 | P99)":              node(api.Or, 0, p(), q),
		"((P0 > P99) & P0)":       node(api.And, 0, node(api.Imp, 0, p(), q), p()),
		"(P0 > (P99 | P0))":       node(api.Imp, 0, p(), node(api.Or, 0, q, p())),
		"(!P0 > P99)":             node(api.Imp, 0, node(api.Not, 0, p()), q),
		"(x1 = x2 > f0 = x3)":     node(api.Imp, 0, node(api.Eq, 0, v(1), v(2)), node(api.Eq, 0, c(), v(3))),
		"(@x1 P0 & ?x2 P99)":      node(api.And, 0, node(api.All, 1, p()), node(api.Some, 2, q)),
		"@x1 (P0 & P99)":          node(api.All, 1, node(api.And, 0, p(), q)),
	} {
		gives(t, Formula, s, want)
		gives(t, Formula, " \t"+s+"\t ", want)
		gives(t, Formula, strings.ReplaceAll(s, " ", ""), want)
		gives(t, Formula, strings.ReplaceAll(s, " ", "\t  "), want)
		refuses(t, Formula, s+" x0", api.ErrToken, len(s)+1)
		refuses(t, Term, s, api.ErrToken, placeInTerm(s))
	}
}

// placeInTerm returns where a formula's text can't be that of a term: at its start, or at the = between two terms.
func placeInTerm(s string) int {
	if s[0] == 'x' || s[0] == 'f' {
		return strings.Index(s, "=")
	}
	return 0
}

// P3.2
func TestTermOfEachKind(t *testing.T) {
	for s, want := range map[string]api.Expr{
		"x0":                     v(0),
		"x63":                    v(63),
		"f0":                     c(),
		"f99(x1)":                node(api.App, 99, v(1)),
		"f1(x1, f0)":             node(api.App, 1, v(1), c()),
		"f1(x1, f0, f0(f0))":     node(api.App, 1, v(1), c(), node(api.App, 0, c())),
		"f1(x1, x2, x3, f1(x4))": node(api.App, 1, v(1), v(2), v(3), node(api.App, 1, v(4))),
	} {
		gives(t, Term, s, want)
		gives(t, Term, "\t"+strings.ReplaceAll(s, "(", " ( ")+" ", want)
		gives(t, Term, strings.ReplaceAll(s, " ", ""), want)
		refuses(t, Term, s+" ,", api.ErrToken, len(s)+1)
		refuses(t, Formula, s+" ", api.ErrToken, len(s)+1)
	}
}

// P3.2: a token that can't stand there, or none where one must.
func TestFormulaRefuses(t *testing.T) {
	for s, at := range map[string]int{
		"   ":                   3,
		"(":                     1,
		")":                     0,
		"=":                     0,
		",":                     0,
		">":                     0,
		"P0)":                   2,
		"P0 = x0":               3,
		"P0 > P1":               3,
		"P0(":                   3,
		"P0(x0":                 5,
		"P0(x0,":                6,
		"P0(x0,)":               6,
		"P0(x0 x1)":             6,
		"P0(x0))":               6,
		"P0(P0)":                3,
		"P0(x0 = x0)":           6,
		"P0((x0))":              3,
		"P0(x0,x0,x0,x0,":       14,
		"P0(x0,x0,x0,x0":        14,
		"f0":                    2,
		"f0(":                   3,
		"f0()":                  3,
		"f0(x0)":                6,
		"f0(x0,x0,x0,x0,x0)=x0": 14,
		"x0 =":                  4,
		"x0 = ":                 5,
		"x0 = P0":               5,
		"x0 = x1 = x2":          8,
		"x0 = (x1)":             5,
		"x0(x1) = x2":           2,
		"!":                     1,
		"!x0":                   3,
		"!)":                    1,
		"@":                     1,
		"@x0":                   3,
		"@x0 x0":                6,
		"@f0 P0":                1,
		"@P0":                   1,
		"@@x0 P0":               1,
		"?":                     1,
		"?(x0) P0":              1,
		"?x0, P0":               3,
		"(P0)":                  3,
		"(P0 >":                 5,
		"(P0 > )":               6,
		"(P0 > P1 > P2)":        9,
		"(P0 > P1 & P2)":        9,
		"(P0 ! P1)":             4,
		"(P0 = P1)":             4,
		"(P0 , P1)":             4,
		"(P0 x62 P1)":           4, // the numbers of these are the bytes of signs
		"(P0 f38 P1)":           4,
		"P0 x40 x0 x41":         3,
		"x0 f61 x1":             3,
		"(P0 > P1 x41":          9,
		"(P0 > P1))":            9,
		"(P0 > P1) (":           10,
		"(x0 = x1)":             8,
	} {
		refuses(t, Formula, s, api.ErrToken, at)
	}
}

// P3.2
func TestTermRefuses(t *testing.T) {
	for s, at := range map[string]int{
		"":                   0,
		" \t":                2,
		"P0(x0)":             0,
		"(x0)":               0,
		"!x0":                0,
		"x0 = x0":            3,
		"x0 x0":              3,
		"x0(x1)":             2,
		"f0(":                3,
		"f0()":               3,
		"f0(x0":              5,
		"f0(x0 ":             6,
		"f0(x0,":             6,
		"f0(x0,)":            6,
		"f0(x0 f0)":          6,
		"f0(x0))":            6,
		"f0(P0)":             3,
		"f0(x0,x0,x0,x0,x0)": 14,
		"f0 f0":              3,
		"f40 x0)":            4,
		"f0(f0(x0)":          9,
		"f0(x0)(x0)":         6,
	} {
		refuses(t, Term, s, api.ErrToken, at)
	}
}

// P3.2, R3: the error of Tokens comes first, then ErrToken, then ErrMany, then ErrDeep.
func TestOrderOfErrors(t *testing.T) {
	for _, f := range []call{Formula, Term} {
		refuses(t, f, ") #", api.ErrByte, 2)
		refuses(t, f, ") x", api.ErrNumber, 2)
		refuses(t, f, "x0 x0 x64", api.ErrNumber, 6)
		refuses(t, f, "é", api.ErrByte, 0)
		refuses(t, f, "\n", api.ErrByte, 0)
		refuses(t, f, strings.Repeat(")", 8001), api.ErrLong, 0)
		refuses(t, f, strings.Repeat("#", 8001), api.ErrLong, 0)
		refuses(t, f, strings.Repeat(" ", 8001), api.ErrLong, 0)
		refuses(t, f, strings.Repeat(" ", 8000), api.ErrToken, 8000)
	}
	many := around(1000, "!", "P0", "")
	refuses(t, Formula, many, api.ErrMany, 0)
	refuses(t, Formula, many+" ", api.ErrMany, 0)
	refuses(t, Formula, many+"#", api.ErrByte, 1002)
	refuses(t, Formula, many+")", api.ErrToken, 1002)
	refuses(t, Formula, many+"(", api.ErrToken, 1003)
	deep := around(100, "!", "P0", "")
	refuses(t, Formula, deep, api.ErrDeep, 0)
	refuses(t, Formula, deep+"x", api.ErrNumber, 102)
	refuses(t, Formula, deep+"=", api.ErrToken, 102)
	refuses(t, Formula, "("+deep+" > "+many, api.ErrToken, 1108)
	refuses(t, Formula, "("+deep+" > "+many+")", api.ErrMany, 0)
	refuses(t, Formula, "("+deep+" > P0)", api.ErrDeep, 0)

	manyTerm := around(1000, "f0(", "x0", ")")
	refuses(t, Term, manyTerm, api.ErrMany, 0)
	refuses(t, Term, manyTerm+")", api.ErrToken, len(manyTerm))
	refuses(t, Term, manyTerm[:len(manyTerm)-1], api.ErrToken, len(manyTerm)-1)
	deepTerm := around(100, "f0(", "x0", ")")
	refuses(t, Term, deepTerm, api.ErrDeep, 0)
	refuses(t, Term, deepTerm+" f", api.ErrNumber, len(deepTerm)+1)
	refuses(t, Term, deepTerm[:len(deepTerm)-1], api.ErrToken, len(deepTerm)-1)
}

// P3.2: the limits of the number of nodes.
func TestFormulaMany(t *testing.T) {
	for _, count := range []int{998, 999, 1000, 1001, 1002, 1500} {
		text := textOf(sizedTerm(count-2)) + " = x0"
		if len(text) > api.MaxText {
			t.Fatal("too long")
		}
		e := node(api.Eq, 0, sizedTerm(count-2), v(0))
		if count <= 1000 {
			gives(t, Formula, text, e)
			gives(t, Formula, textOf(sized(count)), sized(count))
			gives(t, Term, textOf(sizedTerm(count)), sizedTerm(count))
		} else {
			refuses(t, Formula, text, api.ErrMany, 0)
			refuses(t, Formula, textOf(sized(count)), api.ErrMany, 0)
			refuses(t, Term, textOf(sizedTerm(count)), api.ErrMany, 0)
		}
	}
	// As many nodes as a text can have.
	refuses(t, Formula, strings.Repeat("!", 7998)+"P0", api.ErrMany, 0)
	refuses(t, Formula, around(1142, "(", "P0", ">x0=x0)")[:7998], api.ErrToken, 7998)
	refuses(t, Formula, around(1333, "(P0>", "P0", ")"), api.ErrMany, 0)
	refuses(t, Formula, around(1332, "(", "P0", ">P0)"), api.ErrMany, 0)
	refuses(t, Term, around(1999, "f0(", "x0", ")"), api.ErrMany, 0)
}

// textOf returns the text of e, valid or not in its size, by the words of P3.3.
func textOf(e api.Expr) string {
	var kids []string
	for _, kid := range e.Kids {
		kids = append(kids, textOf(kid))
	}
	digits := []string{"0", "1", "2", "3", "4", "5", "6", "7", "8", "9"}
	id := digits[e.Id%10]
	if e.Id >= 10 {
		id = digits[e.Id/10] + id
	}
	arguments := ""
	if len(kids) > 0 {
		arguments = "(" + strings.Join(kids, ", ") + ")"
	}
	switch e.Kind {
	case api.Var:
		return "x" + id
	case api.App:
		return "f" + id + arguments
	case api.Atom:
		return "P" + id + arguments
	case api.Eq:
		return kids[0] + " = " + kids[1]
	case api.Not:
		return "!" + kids[0]
	case api.Imp:
		return "(" + kids[0] + " > " + kids[1] + ")"
	case api.And:
		return "(" + kids[0] + " & " + kids[1] + ")"
	case api.Or:
		return "(" + kids[0] + " | " + kids[1] + ")"
	case api.All:
		return "@x" + id + " " + kids[0]
	}
	return "?x" + id + " " + kids[0]
}

// P3.2: the limits of the depth, by each way of the grammar.
func TestFormulaDeep(t *testing.T) {
	for _, c := range []struct {
		before, inner, behind string
		depth                 int // of inner
	}{
		{"!", "P0", "", 1},
		{"@x0", "P0", "", 1},
		{"?x63 ", "P0", "", 1},
		{"(", "P0", ">P0)", 1},
		{"(P0&", "P0", ")", 1},
		{"(P0|", "P0", ")", 1},
		{"!", "P0(x0)", "", 2},
		{"!", "x0=x1", "", 2},
		{"!", "x0=f0(x1)", "", 3},
		{"!", "f0(x1)=x0", "", 3},
		{"!", "P0(x0,x0,x0,f0(f0(x1)))", "", 4},
		{"(P0&", "x0=f0(x1)", ")", 3},
	} {
		for nesting := 98; nesting <= 103; nesting++ {
			s := around(nesting-c.depth, c.before, c.inner, c.behind)
			e, code, at := Formula(s)
			switch {
			case nesting <= 100 && (code != api.OK || expr.Right(e) != api.OK || expr.Depth(e) != nesting):
				t.Errorf("%q, %d deep: %d, %d", short(s), nesting, code, at)
			case nesting > 100:
				refuses(t, Formula, s, api.ErrDeep, 0)
			}
		}
	}
	for nesting := 98; nesting <= 103; nesting++ {
		for _, behind := range []string{")", ",x1)", ",x1,f0,x2)"} {
			s := around(nesting-1, "f0(", "x0", behind)
			if e, code, _ := Term(s); nesting <= 100 && (code != api.OK || expr.Depth(e) != nesting) {
				t.Errorf("%q, %d deep: %d", short(s), nesting, code)
			}
			if nesting > 100 {
				refuses(t, Term, s, api.ErrDeep, 0)
			}
		}
	}
}

// R1: the same tokens over and over, as many as a text can have.
func TestFormulaOfRepeated(t *testing.T) {
	const end = -1
	for _, c := range []struct {
		s             string
		formula, term int
	}{
		{"!", end, 0},
		{"(", end, 0},
		{"@x0", end, 0},
		{"?x0", end, 0},
		{"(!", end, 0},
		{"(P0>", end, 0},
		{"(@x0!", end, 0},
		{"f0(", end, end},
		{"f0(x0,", end, end},
		{"P0", 2, 0},
		{"P0(", 3, 0},
		{"x0=", 5, 2},
		{"x0", 2, 2},
		{"P0(x0,", 6, 0},
		{")", 0, 0},
	} {
		text := strings.Repeat(c.s, 8000/len(c.s))
		for _, way := range []struct {
			f  call
			at int
		}{{Formula, c.formula}, {Term, c.term}} {
			if way.at == end {
				way.at = len(text)
			}
			refuses(t, way.f, text, api.ErrToken, way.at)
		}
	}
}

// R4: the lists of a result, and those of two results, are not the same memory.
func TestFormulaAnew(t *testing.T) {
	noted := map[*api.Expr]bool{}
	for range 2 {
		for _, s := range []string{thirdText, "P0(x0,x1,f0(x0,x1,x2),x0)", "(P0 > P0)", "f0(x0,x0) = f0(x0,x0)"} {
			e, code, _ := Formula(s)
			if code != api.OK {
				t.Fatal(s, code)
			}
			claim(t, noted, e)
		}
		e, _, _ := Term("f0(f0(x0), f0(x0, x1, x2), f0(x0))")
		claim(t, noted, e)
	}
}

// R1: only what this package raises is caught as an error.
func TestOtherPanicsGoOn(t *testing.T) {
	defer func() {
		if raised := recover(); raised != "another" {
			t.Errorf("%v", raised)
		}
	}()
	caught("another")
	t.Error("it is caught")
}
