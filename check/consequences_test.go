package check

import (
	"math/rand"
	"slices"
	"strings"
	"testing"

	"organon/api"
	"organon/samples"
	"organon/unit"
)

// P10.3: what names provide that the unit does not cite has no effect.
func TestToldUncited(t *testing.T) {
	r := rand.New(rand.NewSource(103))
	for range 500 {
		text, told := write(t, r)
		want := One(text, told)
		cited := unit.Cites(text)
		var fewer, others []api.Told
		for _, what := range told {
			if slices.Contains(cited, what.Name) {
				fewer = append(fewer, what)
			} else {
				others = append(others, api.Told{Name: what.Name, Is: !what.Is, Says: samples.AnyFormula(r, 2)})
			}
		}
		comes(t, text, fewer, want)
		comes(t, text, append(slices.Clone(others), fewer...), want)
		comes(t, text, append(slices.Clone(fewer), others...), want)
	}
}

// P10.3: the lines after the first bad step have no effect, if they are those of a unit, and the error is not ErrStates.
func TestLinesBehind(t *testing.T) {
	r := rand.New(rand.NewSource(1030))
	cut := 0
	for range 500 {
		text, told := write(t, r)
		want := One(text, told)
		if want.Good || want.Code == api.ErrStates {
			continue
		}
		lines := strings.SplitAfter(text, "\n")
		head := strings.Join(lines[:2+want.Step], "")
		if head != text {
			cut++
		}
		comes(t, head, told, want)
		if u, _, _ := unit.Parse(head); len(u.Steps) != want.Step {
			t.Fatal(text)
		}
		for _, line := range []string{"x0 = x0 : axiom 6", "P7 : axiom 0", "P7 : detach 99 99", "P7 : cite nothing"} {
			comes(t, stepped(head, want.Step+1, line), told, want)
		}
		comes(t, head+"\n", told, none(api.ErrLine, want.Step+3))
		comes(t, stepped(head, want.Step+1, "P7 : axiom"), told, none(api.ErrLine, want.Step+3))
	}
	if cut < 50 {
		t.Errorf("only %d of the samples have a step behind", cut)
	}
	// Of a unit that is bad for ErrStates alone, steps behind can be those that were missing.
	told := list(tells(t, "self", "(P0 > P0)"))
	shorter := strings.Join(strings.SplitAfter(third(), "\n")[:3], "")
	comes(t, shorter, told, bad(1, api.ErrStates))
	comes(t, stepped(shorter, 2, "@x0 (P0 > P0) : gen 1 x0"), told, good)
}

// stepped returns a text with one more step behind.
func stepped(text string, number int, step string) string {
	whole := stating("", "P0", append(repeated(number-1, "P0 : axiom 1"), step)...)
	lines := strings.SplitAfter(whole, "\n")
	return text + lines[number+1]
}

// P10.3, R6: runs go on in the same way, whatever other runs do between their steps.
func TestRunsBeside(t *testing.T) {
	r := rand.New(rand.NewSource(1031))
	for range 100 {
		type pair struct {
			text string
			told []api.Told
			run  *Run
			left int
			want api.Verdict
		}
		var pairs []pair
		for range 4 {
			text, told := write(t, r)
			want := One(text, told)
			// Two with the same arguments.
			for range 2 {
				run := New(text, told)
				pairs = append(pairs, pair{text, told, run, run.Left(), want})
			}
		}
		for range 100 {
			p := &pairs[r.Intn(len(pairs))]
			if p.run.Step() != (p.left > 1) {
				t.Errorf("%s: with %d steps left", short(p.text), p.left)
			}
			p.left = max(p.left-1, 0)
			stands(t, p.run, p.left, p.want)
		}
		for i := range pairs {
			p := &pairs[i]
			for p.run.Step() {
			}
			stands(t, p.run, 0, p.want)
		}
	}
}

// P10.3: a run has 1 to MaxSteps + 1 steps.
func TestRunLength(t *testing.T) {
	if n := New("", nil).Left(); n != 1 {
		t.Error(n)
	}
	for steps := 1; steps <= 60; steps++ {
		text := stating("", "x0 = x0", repeated(steps, "x0 = x0 : axiom 6")...)
		if n := New(text, nil).Left(); n != steps+1 {
			t.Error(steps, n)
		}
	}
	if n := New(stating("", "x0 = x0", repeated(61, "x0 = x0 : axiom 6")...), nil).Left(); n != 1 {
		t.Error(n)
	}
}
