package parse

import (
	"math/rand"
	"strings"
	"testing"

	"organon/api"
	"organon/expr"
)

// P3.3: the row of the examples.
func TestPrintExample(t *testing.T) {
	e, _, _ := Formula(thirdText)
	for _, e := range []api.Expr{e, third()} {
		if s, code := Print(e); s != thirdText || code != api.OK {
			t.Errorf("%q, %d", s, code)
		}
	}
}

// P3.3: each kind, with all its blanks and parentheses.
func TestPrintOfEachKind(t *testing.T) {
	q := node(api.Atom, 99)
	for want, e := range map[string]api.Expr{
		"x0":                          v(0),
		"x63":                         v(63),
		"f0":                          {Kind: api.App, Kids: []api.Expr{}},
		"f99(x1)":                     node(api.App, 99, v(1)),
		"f10(x1, f0, f1(x2, x3), f0)": node(api.App, 10, v(1), c(), node(api.App, 1, v(2), v(3)), c()),
		"P0":                          p(),
		"P99":                         q,
		"P1(x1, x2, x3)":              node(api.Atom, 1, v(1), v(2), v(3)),
		"x1 = x2":                     node(api.Eq, 0, v(1), v(2)),
		"f1(x1) = f0":                 node(api.Eq, 0, node(api.App, 1, v(1)), c()),
		"!P0":                         node(api.Not, 0, p()),
		"!!P0":                        node(api.Not, 0, node(api.Not, 0, p())),
		"!x1 = x2":                    node(api.Not, 0, node(api.Eq, 0, v(1), v(2))),
		"(P0 > P99)":                  node(api.Imp, 0, p(), q),
		"(P0 & P99)":                  node(api.And, 0, p(), q),
		"(P0 | P99)":                  node(api.Or, 0, p(), q),
		"((P0 & P99) | (P99 > P0))":   node(api.Or, 0, node(api.And, 0, p(), q), node(api.Imp, 0, q, p())),
		"!(P0 > !P99)":                node(api.Not, 0, node(api.Imp, 0, p(), node(api.Not, 0, q))),
		"(x1 = x2 > x2 = x1)":         node(api.Imp, 0, node(api.Eq, 0, v(1), v(2)), node(api.Eq, 0, v(2), v(1))),
		"@x63 P0":                     node(api.All, 63, p()),
		"?x0 P0":                      node(api.Some, 0, p()),
		"@x1 x1 = x2":                 node(api.All, 1, node(api.Eq, 0, v(1), v(2))),
		"@x1 ?x2 !@x3 P0(x1)":         node(api.All, 1, node(api.Some, 2, node(api.Not, 0, node(api.All, 3, node(api.Atom, 0, v(1)))))),
		"?x1 (P0 > @x2 P99)":          node(api.Some, 1, node(api.Imp, 0, p(), node(api.All, 2, q))),
	} {
		if s, code := Print(e); s != want || code != api.OK {
			t.Errorf("%q, %d; want %q", s, code, want)
		}
	}
}

// P3.3
func TestPrint(t *testing.T) {
	for i, e := range valid() {
		if s, code := Print(e); s != textOf(e) || code != api.OK {
			t.Errorf("valid %d: %q, %d", i, short(s), code)
		}
	}
}

// P3.3, R1, R2, R8
func TestPrintWrong(t *testing.T) {
	for want, list := range wrong() {
		for i, e := range list {
			if s, code := Print(e); s != "" || code != want || code != expr.Right(e) {
				t.Errorf("wrong %d: %q, %d; want %d", i, short(s), code, want)
			}
		}
	}
}

// P3.4: what is printed is parsed as the same expression, and as nothing of the other sort.
func TestParsePrinted(t *testing.T) {
	for i, e := range valid() {
		s, _ := Print(e)
		back, code, at := reads(e)(s)
		if !expr.Same(back, e) || code != api.OK || at != 0 {
			t.Errorf("valid %d: %d, %d", i, code, at)
		}
		claim(t, map[*api.Expr]bool{}, back)
		other := Term
		if e.Kind <= api.App {
			other = Formula
		}
		if _, code, _ := other(s); code != api.ErrToken {
			t.Errorf("valid %d: %d", i, code)
		}
	}
}

// spaced returns a text with its tokens as they are, and other blanks between them.
func spaced(s string, blanks func() string) string {
	list, _, _ := Tokens(s)
	var b strings.Builder
	for i, token := range list {
		end := len(s)
		if i+1 < len(list) {
			end = list[i+1].At
		}
		b.WriteString(blanks())
		b.WriteString(strings.Trim(s[token.At:end], " \t"))
	}
	b.WriteString(blanks())
	return b.String()
}

// P3.4: blanks between the tokens may be removed or added.
func TestParseSpaced(t *testing.T) {
	r := rand.New(rand.NewSource(5))
	choices := []string{"", "", " ", "\t", " \t ", "   "}
	for i, e := range valid() {
		s, _ := Print(e)
		for _, text := range []string{
			spaced(s, func() string { return "" }),
			spaced(s, func() string { return " " }),
			spaced(s, func() string { return "\t" }),
			spaced(s, func() string { return choices[r.Intn(len(choices))] }),
		} {
			back, code, at := reads(e)(text)
			if len(text) > api.MaxText {
				if !isZero(back) || code != api.ErrLong || at != 0 {
					t.Errorf("valid %d: %d, %d", i, code, at)
				}
				continue
			}
			if !equal(back, e) || code != api.OK || at != 0 {
				t.Errorf("valid %d: %q: %d, %d", i, short(text), code, at)
			}
			// What is parsed is printed as a text that is parsed as the same expression.
			if again, code := Print(back); again != s || code != api.OK {
				t.Errorf("valid %d: %q, %d", i, short(again), code)
			}
		}
	}
}

// wide returns so many nodes with the longest text that they can have: all of them are function symbols with a term or two.
func wide(count int) api.Expr {
	if count <= 40 {
		return nestedLongest(count)
	}
	half := (count - 1) / 2
	return node(api.App, 99, wide(half), wide(count-1-half))
}

func nestedLongest(count int) api.Expr {
	e := v(63)
	for range count - 1 {
		e = node(api.App, 99, e)
	}
	return e
}

// P3.4: the longest texts are not too long to be parsed.
func TestParseLongest(t *testing.T) {
	quantified := func(e api.Expr) api.Expr {
		for expr.Depth(e) < api.MaxDepth {
			e = node(api.All, 63, e)
		}
		return e
	}
	for i, e := range []api.Expr{
		wide(1000),
		node(api.Eq, 0, wide(499), wide(500)),
		quantified(node(api.Eq, 0, wide(450), wide(460))),
		quantified(node(api.Atom, 99, wide(230), wide(230), wide(230), wide(230))),
	} {
		s, code := Print(e)
		if code != api.OK || len(s) > api.MaxText {
			t.Fatalf("%d: %d, %d bytes", i, code, len(s))
		}
		if back, code, at := reads(e)(s); !equal(back, e) || code != api.OK || at != 0 {
			t.Errorf("%d: %d, %d", i, code, at)
		}
	}
}

// R4: what Print is given stays as it is.
func TestPrintLeavesItsArgument(t *testing.T) {
	whole := []api.Expr{p(), p(), node(77, 77)}
	e := api.Expr{Kind: api.Imp, Kids: whole[:2]}
	Print(e)
	if !equal(e, node(api.Imp, 0, p(), p())) || whole[2].Kind != 77 {
		t.Error("it is changed")
	}
}
