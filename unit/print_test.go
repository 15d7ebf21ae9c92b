package unit

import (
	"strings"
	"testing"

	"organon/api"
	"organon/samples"
)

// prints fails unless Print(u) is want.
func prints(t *testing.T, u api.Unit, want string) {
	t.Helper()
	if s, fault := Print(u); s != want || fault != api.OK {
		t.Errorf("%s, %d; want %s", short(s), fault, short(want))
	}
}

// P9.3: each kind of step; the formulas as parse.Print writes them.
func TestPrint(t *testing.T) {
	prints(t, small(1), "cites\nstates P0\n1 P0 : axiom 1\n")
	u := api.Unit{
		Cites:  []string{"a", "b-0", "abcdefghijkl"},
		States: must(t, "@x0(P0(x0,f1)>!x0=f0)"),
		Steps: []api.Step{
			{Says: must(t, "((P0&P1)|?x63 P2)"), By: api.ByAxiom, A: 0},
			{Says: must(t, "P0"), By: api.ByAxiom, A: 999999999},
			{Says: must(t, "x0=x1"), By: api.ByDetach, A: 12, B: 3},
			{Says: must(t, "!!P1"), By: api.ByGen, A: 10, B: 63},
			{Says: must(t, "P99(x0, x1, x2, x3)"), By: api.ByGen},
			{Says: must(t, "f0(f1(x0)) = f2"), By: api.ByCite, Cite: "not-cited"},
		},
	}
	prints(t, u, lined(
		"cites a b-0 abcdefghijkl",
		"states @x0 (P0(x0, f1) > !x0 = f0)",
		"1 ((P0 & P1) | ?x63 P2) : axiom 0",
		"2 P0 : axiom 999999999",
		"3 x0 = x1 : detach 12 3",
		"4 !!P1 : gen 10 x63",
		"5 P99(x0, x1, x2, x3) : gen 0 x0",
		"6 f0(f1(x0)) = f2 : cite not-cited",
	))
}

// P9.3: the first of the ten examples of the whole.
func TestPrintSelf(t *testing.T) {
	u, fault, _ := Parse(lined(samples.Self()...))
	if fault != api.OK {
		t.Fatal(fault)
	}
	prints(t, u, lined(samples.Self()...))
}

// P9.3: the steps are numbered from 1 on.
func TestPrintNumbers(t *testing.T) {
	s, _ := Print(small(60))
	lines := strings.Split(s, "\n")
	if len(lines) != 63 || lines[2] != "1 P0 : axiom 1" || lines[11] != "10 P0 : axiom 1" || lines[61] != "60 P0 : axiom 1" || lines[62] != "" {
		t.Errorf("%q", lines)
	}
}

// long returns a valid unit whose text has so many bytes, if that were allowed, and this text.
func long(t *testing.T, length int) (api.Unit, string) {
	t.Helper()
	u := small(60)
	missing := length - len(written(u))
	nodes := 300
	for i := range u.Steps {
		for nodes > 1 && len(formula(sized(nodes)))-len("P0") > missing {
			nodes--
		}
		u.Steps[i].Says = sized(nodes)
		missing -= len(formula(sized(nodes))) - len("P0")
	}
	for i := 0; missing > 0 && i < 60; i++ {
		for ; u.Steps[i].A < 100000000 && missing > 0; missing-- {
			u.Steps[i].A *= 10
		}
	}
	s := written(u)
	if len(s) != length || Right(u) != api.OK {
		t.Fatal("no such unit", len(s), length)
	}
	return u, s
}

// P9.3: texts at the limit and beyond it.
func TestPrintLong(t *testing.T) {
	for length, want := range map[int]api.Errno{
		19000: api.OK, 19999: api.OK, 20000: api.OK, 20001: api.ErrLong, 20002: api.ErrLong, 30000: api.ErrLong,
	} {
		u, s := long(t, length)
		if want == api.OK {
			prints(t, u, s)
		} else if got, fault := Print(u); got != "" || fault != want {
			t.Errorf("%d bytes: %s, %d", length, short(got), fault)
		}
	}
	u := small(60)
	for i := range u.Steps {
		u.Steps[i].Says = sized(300)
	}
	if s, fault := Print(u); s != "" || fault != api.ErrLong {
		t.Errorf("%d bytes, %d", len(s), fault)
	}
	// What is wrong comes ahead of the length.
	u.Steps[59].By = api.ByAssume
	if s, fault := Print(u); s != "" || fault != api.ErrLine {
		t.Errorf("%s, %d", short(s), fault)
	}
}
