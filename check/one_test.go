package check

import (
	"strings"
	"testing"

	"organon/api"
	"organon/samples"
	"organon/unit"
)

// notUnits returns texts that are no units, and their verdicts.
func notUnits() map[string]api.Verdict {
	return map[string]api.Verdict{
		"":                   none(api.ErrLine, 1),
		"hello":              none(api.ErrLine, 1),
		"\xff\x00":           none(api.ErrLine, 1),
		"cites":              none(api.ErrLine, 2),
		"cites\nstates P0\n": none(api.ErrLine, 3),
		"cites a a\n":        none(api.ErrTwice, 1),
		"cites A\n":          none(api.ErrName, 1),
		"cites a b c d e f g h i\nstates P0\n1 P0 : axiom 1\n":                  none(api.ErrLong, 1),
		proof("P0( : axiom 1"):                                                  none(api.ErrToken, 2),
		stating("", "P0", "P0( : axiom 1"):                                      none(api.ErrToken, 3),
		stating("", "P0", "P100 : axiom 1"):                                     none(api.ErrNumber, 3),
		stating("", "P0", "P0# : axiom 1"):                                      none(api.ErrByte, 3),
		proof("P0 : axiom 1", "P0 : axiom"):                                     none(api.ErrLine, 4),
		proof("P0 : axiom 9", "P0 : gen 1 x64"):                                 none(api.ErrLine, 4),
		proof("P0 : axiom 9", "P0 : cite A"):                                    none(api.ErrName, 4),
		first() + "\n":                                                          none(api.ErrLine, 8),
		strings.Repeat("x", 20001):                                              none(api.ErrLong, 0),
		strings.Repeat("x", 1000000):                                            none(api.ErrLong, 0),
		first() + strings.Repeat(" ", 20001):                                    none(api.ErrLong, 0),
		proof(repeated(61, "P0 : axiom 1")...):                                  none(api.ErrLong, 63),
		stating("", "P0", strings.Repeat("!", 30)+"P0 : axiom 1"):               none(api.ErrDeep, 3),
		stating("", "P0", samples.Text(samples.Sized(301))+" : axiom 1"):        none(api.ErrMany, 3),
		stating("", samples.Text(samples.Sized(301)), "P0 : axiom 1"):           none(api.ErrMany, 2),
		"cites\nstates P0\n1 P0 : axiom 1" + strings.Repeat(" ", 8000):          none(api.ErrLine, 3),
		"cites\nstates P0\n1 P0 " + strings.Repeat(" ", 8000) + ": axiom 1":     none(api.ErrLong, 3),
		"cites\nstates P0\n1 P0 : axiom 1\n2 P0 : axiom 1\n4 P0 : axiom 1\n":    none(api.ErrLine, 5),
		"cites\nstates P0\n1 P0 : axiom 1000000000\n":                           none(api.ErrLine, 3),
		"cites\nstates P0\n1 P0 : detach 01 1\n":                                none(api.ErrLine, 3),
		"cites a\nstates P0\n1 P0 : cite a b\n":                                 none(api.ErrLine, 3),
		"cites a\r\nstates P0\n1 P0 : cite a\n":                                 none(api.ErrName, 1),
		"cites\nstates x0\n1 P0 : axiom 1\n":                                    none(api.ErrToken, 2),
		"cites\nstates P0\n1 x0 : axiom 1\n":                                    none(api.ErrToken, 3),
		"cites\nstates P0 : axiom 1\n1 P0 : axiom 1\n":                          none(api.ErrByte, 2),
		"cites\nstates (P0 > P0)\n2 (P0 > P0) : axiom 1\n1 (P0 > P0) : axiom 1": none(api.ErrLine, 3),
	}
}

// P10.2: the rows of the examples.
func TestOneExamples(t *testing.T) {
	u, v := first(), third()
	comes(t, u, nil, good)
	comes(t, strings.Replace(u, "axiom 1", "axiom 3", 1), nil, bad(1, api.ErrAxiom))
	comes(t, strings.Replace(u, "detach 1 2", "detach 3 2", 1), nil, bad(3, api.ErrStep))
	comes(t, strings.Replace(u, "detach 1 2", "detach 1 9", 1), nil, bad(3, api.ErrStep))
	comes(t, v, list(), bad(1, api.ErrAbsent))
	comes(t, v, list(tells(t, "self", "(P0 > P0)")), good)
	comes(t, v, list(tells(t, "self", "P0")), bad(1, api.ErrOther))
	shorter := v[:strings.Index(v, "2 @")]
	comes(t, shorter, list(tells(t, "self", "(P0 > P0)")), bad(1, api.ErrStates))
	comes(t, "hello", nil, none(api.ErrLine, 1))
}

// P10.2: the verdict of what is no unit is the error of unit.Parse, at its line.
func TestOneOfNone(t *testing.T) {
	for text, want := range notUnits() {
		if _, fault, at := unit.Parse(text); fault != want.Code || at != want.At {
			t.Errorf("%s: %d at %d; want %v", short(text), fault, at, want)
		}
		comes(t, text, nil, want)
		comes(t, text, list(tells(t, "a", "P0"), tells(t, "self", "P0")), want)
	}
}

// P10.2: a text just as long as one may be.
func TestOneLongest(t *testing.T) {
	said := "P0 : cite a\n"
	text := "cites a\nstates P0\n"
	for _, number := range []string{"1 ", "2 ", "3 "} {
		text += number + strings.Repeat(" ", 6000) + said
	}
	text = strings.Replace(text, "states P0", "states "+strings.Repeat(" ", 20000-len(text))+"P0", 1)
	comes(t, text, list(tells(t, "a", "P0")), good)
	comes(t, strings.Replace(text, "P0", "P1", 1), list(tells(t, "a", "P0")), bad(3, api.ErrStates))
	comes(t, strings.Replace(text, "P0", " P0", 1), list(tells(t, "a", "P0")), none(api.ErrLong, 0))
}

// instances returns an instance of each schema, in order.
func instances() []string {
	return []string{
		"(P0 > (P1 > P0))",
		"((P0 > (P1 > P2)) > ((P0 > P1) > (P0 > P2)))",
		"((!P0 > !P1) > (P1 > P0))",
		"(@x0 P0(x0) > P0(f0))",
		"(@x0 (P0 > P1(x0)) > (P0 > @x0 P1(x0)))",
		"f0(x1) = f0(x1)",
		"(x0 = x1 > (P0(x0, x0) > P0(x0, x1)))",
	}
}

// P10.2: ByAxiom: the schema with the number, and no other one.
func TestOneAxiom(t *testing.T) {
	for i, says := range instances() {
		for _, number := range []string{"0", "1", "2", "3", "4", "5", "6", "7", "8", "10", "11", "17", "100", "999999999"} {
			want := bad(1, api.ErrAxiom)
			if number == string(rune('1'+i)) {
				want = good
			}
			comes(t, proof(says+" : axiom "+number), nil, want)
		}
	}
	for _, says := range []string{
		"P0", "(P0 > P0)", "((P0 > P1) > P0)", "!(P0 > (P1 > P0))", "@x0 (P0 > (P1 > P0))", "x0 = x1",
		"(@x0 @x1 P0(x0, x1) > @x1 P0(x1, x1))", "(@x0 (P0(x0) > P1(x0)) > (P0(x0) > @x0 P1(x0)))", "(x0 = x1 > (@x1 P0(x0) > @x1 P0(x1)))",
	} {
		for _, number := range []string{"1", "2", "3", "4", "5", "6", "7"} {
			comes(t, proof(says+" : axiom "+number), nil, bad(1, api.ErrAxiom))
		}
	}
}

// P10.2: ByAxiom: it is the plain form that must be an instance.
func TestOneAxiomPlain(t *testing.T) {
	for says, number := range map[string]string{
		"(!P0 | (P1 > P0))":                                    "",
		"((P0 | P1) > (!P0 > P1))":                             "",
		"((P0 | P1) > (P2 > (P0|P1)))":                         "1",
		"((P0 | P1) > (P2 > (!P0>P1)))":                        "1",
		"((P0 & P1) > (P2 > !(P0>!P1)))":                       "1",
		"(?x0 P0 > (P1 > !@x0 !P0))":                           "1",
		"(P0 | (P1 > !P0))":                                    "1",
		"(P0 | (!P0 | P1))":                                    "",
		"(P0 | (P1 | !P0))":                                    "1",
		"((!P0 > !P1) > (P1 > P0))":                            "3",
		"((P0 | !P1) > (P1 > P0))":                             "3",
		"((P0 | (P1 & P2)) > ((P1 > !P2) > P0))":               "3",
		"((P0 | ?x1 P1) > (@x1 !P1 > P0))":                     "3",
		"(@x0 ?x1 P0(x0, x1) > !@x1 !P0(x2, x1))":              "4",
		"(@x0 ?x1 P0(x0, x1) > ?x1 P0(x1, x1))":                "",
		"(@x0 (P0 | P1(x0)) > (!P0 > @x0 P1(x0)))":             "5",
		"(@x0 (P0(x0) | P1(x0)) > (!P0(x0) > @x0 P1(x0)))":     "",
		"(x0 = x1 > ((P0(x0) & P1) > !(P0(x1) > !P1)))":        "7",
		"(x0 = x1 > (?x2 P0(x0) > !@x2 !P0(x1)))":              "7",
		"(x0 = x1 > (?x0 P0(x0) > !@x0 !P0(x1)))":              "",
		"((P0 | (P1 | P2)) > ((P0 | P1) > (P0 | P2)))":         "",
		"((P0 > (P1 | P2)) > ((P0 > !P1) > (P0 > P2)))":        "2",
		"((!!P0 > (!P1 > P2)) > ((!P0 | !P1) > (!!P0 > P2)))":  "2",
		"((!P0 > (!P1 > P2)) > ((P0 | !P1) > (P0 | P2)))":      "2",
		"((P0 | (P1 | (P2 & P3))) > ((P0 | !P1) > (P0 | P4)))": "",
	} {
		for _, k := range []string{"1", "2", "3", "4", "5", "6", "7"} {
			want := bad(1, api.ErrAxiom)
			if k == number {
				want = good
			}
			comes(t, proof(says+" : axiom "+k), nil, want)
		}
	}
}

// P10.2: ByDetach: the steps that are named.
func TestOneDetachSteps(t *testing.T) {
	start := []string{"P0 : cite a", "(P0 > P1) : cite b"}
	told := list(tells(t, "a", "P0"), tells(t, "b", "(P0 > P1)"))
	for reason, want := range map[string]api.Verdict{
		"detach 1 2":                 good,
		"detach 2 1":                 bad(3, api.ErrDetach),
		"detach 1 1":                 bad(3, api.ErrDetach),
		"detach 2 2":                 bad(3, api.ErrDetach),
		"detach 0 2":                 bad(3, api.ErrStep),
		"detach 1 0":                 bad(3, api.ErrStep),
		"detach 0 0":                 bad(3, api.ErrStep),
		"detach 3 2":                 bad(3, api.ErrStep),
		"detach 1 3":                 bad(3, api.ErrStep),
		"detach 3 3":                 bad(3, api.ErrStep),
		"detach 4 2":                 bad(3, api.ErrStep),
		"detach 1 4":                 bad(3, api.ErrStep),
		"detach 1 999999999":         bad(3, api.ErrStep),
		"detach 999999999 2":         bad(3, api.ErrStep),
		"detach 999999999 999999999": bad(3, api.ErrStep),
	} {
		comes(t, citing("a b", append(start, "P1 : "+reason)...), told, want)
		// A step behind is no step ahead; nor is one that could be the last.
		comes(t, stating("a b", "P1", append(start, "P1 : "+reason, "P1 : detach 1 2")...), told, want)
		if want.Good {
			want = bad(3, api.ErrLess)
		}
		comes(t, stating("a b", "P1", append(start, "P2 : "+reason)...), told, want)
	}
	comes(t, proof("P0 : detach 1 1"), nil, bad(1, api.ErrStep))
	comes(t, proof("P0 : detach 0 1"), nil, bad(1, api.ErrStep))
}

// P10.2: ByDetach: what the steps say, in plain forms.
func TestOneDetach(t *testing.T) {
	for _, c := range []struct {
		premise, implication, says string
		want                       api.Errno
	}{
		{"P0", "(P0 > P1)", "P1", api.OK},
		{"P0", "(P0 > P1)", "P0", api.ErrLess},
		{"P0", "(P0 > P1)", "(P0 > P1)", api.ErrLess},
		{"P0", "(P0 > P1)", "P1(x0)", api.ErrLess},
		{"P0", "(P1 > P0)", "P1", api.ErrDetach},
		{"P0", "(P1 > P0)", "P0", api.ErrDetach},
		{"P0", "(P1 > P1)", "P1", api.ErrDetach},
		{"P0", "!(P0 > P1)", "P1", api.ErrDetach},
		{"P0", "(P0 & P1)", "P1", api.ErrDetach},
		{"P0", "@x0 (P0 > P1)", "P1", api.ErrDetach},
		{"P0", "P0", "P1", api.ErrDetach},
		{"(P0 > P1)", "P0", "P1", api.ErrDetach},
		{"@x0 P0(x0)", "(@x1 P0(x1) > P1)", "P1", api.ErrDetach},
		{"P0", "(P0 > (P0 > P1))", "(P0 > P1)", api.OK},
		{"(P0 > P0)", "((P0 > P0) > x0 = x0)", "x0 = x0", api.OK},
		// With abbreviations.
		{"!P0", "(P0 | P1)", "P1", api.OK},
		{"P0", "(!P0 | P1)", "P1", api.ErrDetach},
		{"(P0 | P1)", "((!P0 > P1) > P2)", "P2", api.OK},
		{"(!P0 > P1)", "((P0 | P1) > P2)", "P2", api.OK},
		{"(P0 & P1)", "(!(P0 > !P1) > P2)", "P2", api.OK},
		{"!@x0 !P0(x0)", "(?x0 P0(x0) > P2)", "P2", api.OK},
		{"P0", "(P0 > (P1 | P2))", "(!P1 > P2)", api.OK},
		{"P0", "(P0 > (!P1 > P2))", "(P1 | P2)", api.OK},
		{"P0", "(P0 > ?x0 (P1 & P2))", "!@x0 !!(P1 > !P2)", api.OK},
		{"P0", "(P0 > ?x0 P1)", "!@x0 P1", api.ErrLess},
		{"P0", "(P0 > ?x0 P1)", "?x1 P1", api.ErrLess},
		{"!P0", "(P0 | (P1 & P2))", "(P1 & P2)", api.OK},
		{"!(P0 & P1)", "((P0 & P1) | P2)", "P2", api.OK},
		{"!!(P0 > !P1)", "((P0 & P1) | P2)", "P2", api.OK},
		{"(P0 > !P1)", "((P0 & P1) | P2)", "P2", api.ErrDetach},
	} {
		told := list(tells(t, "a", plainly(t, c.premise)), tells(t, "b", plainly(t, c.implication)))
		want := good
		if c.want != api.OK {
			want = bad(3, c.want)
		}
		steps := []string{c.premise + " : cite a", c.implication + " : cite b", c.says + " : detach 1 2"}
		comes(t, citing("a b", steps...), told, want)
	}
}

// P10.2: ByGen.
func TestOneGen(t *testing.T) {
	told := list(tells(t, "a", "P0(x0)"), tells(t, "b", "!(P1(x1) > !P2)"))
	for _, c := range []struct {
		step string
		want api.Errno
	}{
		{"@x0 P0(x0) : gen 1 x0", api.OK},
		{"@x1 P0(x0) : gen 1 x1", api.OK},
		{"@x63 P0(x0) : gen 1 x63", api.OK},
		{"@x0 (P1(x1) & P2) : gen 2 x0", api.OK},
		{"@x0 !(P1(x1) > !P2) : gen 2 x0", api.OK},
		{"@x0 P0(x0) : gen 1 x1", api.ErrGen},
		{"@x1 P0(x1) : gen 1 x1", api.ErrGen},
		{"@x1 P0(x1) : gen 1 x0", api.ErrGen},
		{"@x0 P0(x0) : gen 2 x0", api.ErrGen},
		{"P0(x0) : gen 1 x0", api.ErrGen},
		{"?x0 P0(x0) : gen 1 x0", api.ErrGen},
		{"!@x0 !P0(x0) : gen 1 x0", api.ErrGen},
		{"@x0 @x0 P0(x0) : gen 1 x0", api.ErrGen},
		{"!@x0 P0(x0) : gen 1 x0", api.ErrGen},
		{"@x0 (P1(x1) | P2) : gen 2 x0", api.ErrGen},
		{"@x0 P0(x0) : gen 0 x0", api.ErrStep},
		{"@x0 P0(x0) : gen 3 x0", api.ErrStep},
		{"@x0 P0(x0) : gen 4 x0", api.ErrStep},
		{"@x0 P0(x0) : gen 999999999 x0", api.ErrStep},
		// The number of the variable is not that of a step.
		{"@x9 P0(x0) : gen 1 x9", api.OK},
		{"P0(x0) : gen 3 x9", api.ErrStep},
	} {
		want := good
		if c.want != api.OK {
			want = bad(3, c.want)
		}
		steps := []string{"P0(x0) : cite a", "(P1(x1) & P2) : cite b", c.step}
		comes(t, citing("a b", steps...), told, want)
	}
	comes(t, proof("@x0 P0 : gen 1 x0"), nil, bad(1, api.ErrStep))
}

// P10.2: ByGen: a step that can't be larger, or its nodes not further nested, can be generalised in plain forms alone.
func TestOneGenLargest(t *testing.T) {
	deep := samples.Within(29, api.Some, 0, node(api.Atom, 0))
	told := list(api.Told{Name: "a", Is: true, Says: plainOf(t, deep)})
	comes(t, citing("a", samples.Text(deep)+" : cite a"), told, good)
	comes(t, citing("a", samples.Text(deep)+" : cite a", "@x0 P0 : gen 1 x0"), told, bad(2, api.ErrGen))
	wide := samples.Sized(300)
	told = list(api.Told{Name: "a", Is: true, Says: plainOf(t, wide)})
	comes(t, citing("a", samples.Text(wide)+" : cite a"), told, good)
	comes(t, citing("a", samples.Text(wide)+" : cite a", "@x0 P0 : gen 1 x0"), told, bad(2, api.ErrGen))
}

// P10.2: the last step must say what the unit states, in the plain form.
func TestOneStates(t *testing.T) {
	told := list(tells(t, "a", "!(P0 > !P1)"))
	for states, want := range map[string]api.Verdict{
		"(P0 & P1)":   good,
		"!(P0 > !P1)": good,
		"(P1 & P0)":   bad(2, api.ErrStates),
		"(P0 | P1)":   bad(2, api.ErrStates),
		"P2":          bad(2, api.ErrStates),
	} {
		for _, says := range []string{"(P0 & P1)", "!(P0 > !P1)"} {
			comes(t, stating("a", states, "(P0 & P1) : cite a", says+" : cite a"), told, want)
		}
	}
	// What another step says has no effect.
	comes(t, stating("a", "(P0 & P1)", "(P0 & P1) : cite a", "x0 = x0 : axiom 6"), told, bad(2, api.ErrStates))
	comes(t, stating("a", "(P0 & P1)", "x0 = x0 : axiom 6", "(P0 & P1) : cite a"), told, good)
	// The step's own error comes first.
	comes(t, stating("a", "(P0 & P1)", "P0 : axiom 6"), told, bad(1, api.ErrAxiom))
	comes(t, stating("a", "(P0 & P1)", "P0 : cite a"), told, bad(1, api.ErrOther))
	comes(t, stating("a", "(P0 & P1)", "P0 : cite b"), told, bad(1, api.ErrCite))
	comes(t, stating("a", "(P0 & P1)", "P0 : gen 1 x0"), told, bad(1, api.ErrStep))
	comes(t, stating("a", "(P0 & P1)", "x0 = x0 : axiom 6", "P0 : gen 1 x0"), told, bad(2, api.ErrGen))
	comes(t, stating("a", "(P0 & P1)", "x0 = x0 : axiom 6", "P0 : detach 1 1"), told, bad(2, api.ErrDetach))
}
