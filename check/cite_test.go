package check

import (
	"strings"
	"testing"

	"organon/api"
	"organon/rule"
	"organon/samples"
)

// plainOf returns the plain form of a formula.
func plainOf(t samples.Failer, e api.Expr) api.Expr {
	t.Helper()
	plain, fault := rule.Plain(e)
	if fault != api.OK {
		t.Fatalf("%s has no plain form: %d", samples.Short(e), fault)
	}
	return plain
}

// plainly returns the text of the plain form of the formula with the given text.
func plainly(t samples.Failer, s string) string {
	t.Helper()
	return samples.Text(plainOf(t, must(t, s)))
}

// P10.2: ByCite: the name must be one that the unit cites.
func TestOneCite(t *testing.T) {
	told := list(tells(t, "a", "P0"), tells(t, "b", "P0"), tells(t, "ab", "P0"), api.Told{Name: "c"})
	for names, want := range map[string]api.Errno{
		"":                  api.ErrCite,
		"b":                 api.ErrCite,
		"ab":                api.ErrCite,
		"b ab c":            api.ErrCite,
		"a":                 api.OK,
		"b a":               api.OK,
		"a b":               api.OK,
		"b c d e f g h a":   api.OK,
		"b c d e f g h i":   api.ErrCite,
		"ab aa a-a a-1 a0":  api.ErrCite,
		"abcdefghijkl c ab": api.ErrCite,
	} {
		verdict := good
		if want != api.OK {
			verdict = bad(1, want)
		}
		comes(t, citing(names, "P0 : cite a"), told, verdict)
	}
	// That it is not cited comes ahead of what it provides.
	comes(t, citing("b", "P0 : cite c"), told, bad(1, api.ErrCite))
	comes(t, citing("b", "P1 : cite a"), told, bad(1, api.ErrCite))
	comes(t, citing("b", "P1 : cite nothing"), told, bad(1, api.ErrCite))
	comes(t, citing("b", "x0 = x0 : axiom 6", "P0 : cite a"), told, bad(2, api.ErrCite))
}

// P10.2: ByCite: the first of the list with the name says what it provides.
func TestOneProvides(t *testing.T) {
	p, q, nothing := tells(t, "a", "P0"), tells(t, "a", "P1"), api.Told{Name: "a"}
	silent := api.Told{Name: "a", Says: must(t, "P0")}
	other := tells(t, "b", "P0")
	for _, c := range []struct {
		told []api.Told
		want api.Errno
	}{
		{nil, api.ErrAbsent},
		{list(), api.ErrAbsent},
		{list(p), api.OK},
		{list(p, p), api.OK},
		{list(p, q), api.OK},
		{list(p, nothing), api.OK},
		{list(p, other), api.OK},
		{list(other, p), api.OK},
		{list(other, p, q), api.OK},
		{list(q), api.ErrOther},
		{list(q, p), api.ErrOther},
		{list(other, q, p), api.ErrOther},
		{list(nothing), api.ErrAbsent},
		{list(nothing, p), api.ErrAbsent},
		{list(silent), api.ErrAbsent},
		{list(silent, p), api.ErrAbsent},
		{list(other), api.ErrAbsent},
		{list(tells(t, "A", "P0"), tells(t, "", "P0"), tells(t, "aa", "P0"), tells(t, "a ", "P0")), api.ErrAbsent},
		{list(tells(t, "", "P1"), p), api.OK},
	} {
		want := good
		if c.want != api.OK {
			want = bad(1, c.want)
		}
		comes(t, citing("a", "P0 : cite a"), c.told, want)
		comes(t, citing("c b a", "P0 : cite a"), c.told, want)
		comes(t, citing("a b c", "P0 : cite a"), append(list(tells(t, "c", "P1")), c.told...), want)
	}
	comes(t, citing("a b", "P0 : cite b"), list(p, other), good)
	comes(t, citing("a b", "P1 : cite b"), list(q, other), bad(1, api.ErrOther))
	comes(t, citing("a b", "P1 : cite a", "P0 : cite b", "P1 : cite a"), list(q, other), good)
}

// P10.2: ByCite: it is the plain form of what the step says that must be equal to what the name provides, as it is.
func TestOneCitePlain(t *testing.T) {
	for _, says := range []string{
		"P0", "(P0 > P1)", "(P0 & P1)", "(P0 | P1)", "?x0 P0(x0)", "@x0 (P0 | ?x1 P0(x1))", "!(P0 & !P1)", "f0(x1) = x2",
	} {
		plain := plainly(t, says)
		comes(t, citing("a", says+" : cite a"), list(tells(t, "a", plain)), good)
		comes(t, citing("a", plain+" : cite a"), list(tells(t, "a", plain)), good)
		comes(t, citing("a", says+" : cite a"), list(tells(t, "a", "!"+plain)), bad(1, api.ErrOther))
		comes(t, citing("a", "!"+says+" : cite a"), list(tells(t, "a", plain)), bad(1, api.ErrOther))
		if plain != says {
			comes(t, citing("a", says+" : cite a"), list(tells(t, "a", says)), bad(1, api.ErrOther))
			comes(t, citing("a", plain+" : cite a"), list(tells(t, "a", says)), bad(1, api.ErrOther))
		}
	}
	comes(t, citing("a", "@x0 P0(x0) : cite a"), list(tells(t, "a", "@x1 P0(x1)")), bad(1, api.ErrOther))
	comes(t, citing("a", "P0(x0) : cite a"), list(tells(t, "a", "P0(x1)")), bad(1, api.ErrOther))
	comes(t, citing("a", "P0(x0) : cite a"), list(tells(t, "a", "P0")), bad(1, api.ErrOther))
	comes(t, citing("a", "x0 = x1 : cite a"), list(tells(t, "a", "x1 = x0")), bad(1, api.ErrOther))
}

// P10.2, R1, R5: what is told may be any expression; to a formula it is equal only if it is that formula.
func TestOneToldAnything(t *testing.T) {
	text := citing("a", "P0 : cite a")
	told := func(e api.Expr) []api.Told { return list(api.Told{Name: "a", Is: true, Says: e}) }
	comes(t, text, told(api.Expr{Kind: api.Atom, Kids: []api.Expr{}}), good)
	comes(t, text, told(api.Expr{}), bad(1, api.ErrOther))
	comes(t, text, told(samples.Variable(0)), bad(1, api.ErrOther))
	comes(t, text, told(node(api.App, 0)), bad(1, api.ErrOther))
	for _, c := range samples.Wrong() {
		comes(t, text, told(c.Expr), bad(1, api.ErrOther))
		comes(t, citing("b", "P0 : cite b"), append(told(c.Expr), tells(t, "b", "P0")), good)
		comes(t, citing("a b", "P0 : cite b"), append(told(c.Expr), tells(t, "b", "P0")), good)
		comes(t, text, append(told(c.Expr), tells(t, "a", "P0")), bad(1, api.ErrOther))
	}
	comes(t, text, told(samples.Looped()), bad(1, api.ErrOther))
	comes(t, text, told(samples.Doubled(60, node(api.Atom, 0))), bad(1, api.ErrOther))
	// A node like one of the step's, but for a field that such a node does not have.
	not := must(t, "!P0")
	not.Id = 1
	comes(t, citing("a", "!P0 : cite a"), told(not), bad(1, api.ErrOther))
}

// R1: a told list may be longer than what is ever told of names, and its formulas larger than what is written.
func TestOneToldMuch(t *testing.T) {
	var told []api.Told
	large := samples.Sized(1000)
	for i := range 200000 {
		told = append(told, api.Told{Name: strings.Repeat("x", i%20), Is: true, Says: large})
	}
	comes(t, citing("a", "P0 : cite a"), told, bad(1, api.ErrAbsent))
	comes(t, citing("x", "P0 : cite x"), told, bad(1, api.ErrOther))
	comes(t, citing("a", "P0 : cite a"), append(told, tells(t, "a", "P0")), good)
}
