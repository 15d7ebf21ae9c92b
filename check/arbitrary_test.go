package check

import (
	"math/rand"
	"slices"
	"testing"

	"organon/api"
	"organon/expr"
	"organon/samples"
	"organon/schema"
	"organon/unit"
)

// An author writes arbitrary units whose steps follow, but for some.
type author struct {
	*rand.Rand
	told   []api.Told
	unit   api.Unit
	plains []api.Expr // the plain forms of what the steps say
}

// write returns an arbitrary unit, which is often good, and what names tell.
func write(t *testing.T, r *rand.Rand) (string, []api.Told) {
	t.Helper()
	for {
		a := &author{Rand: r}
		a.tell()
		for range 1 + r.Intn(9) {
			a.add()
		}
		a.unit.States = a.fold(a.plains[len(a.plains)-1])
		if r.Intn(8) == 0 {
			a.unit.States = a.any()
		}
		for range r.Intn(3) {
			a.spoil()
		}
		// A unit whose formulas have become too large has no text.
		if s, fault := unit.Print(a.unit); fault == api.OK {
			return s, a.told
		}
	}
}

// any returns an arbitrary small formula.
func (a *author) any() api.Expr {
	return samples.AnyFormula(a, 1+a.Intn(3))
}

// tell has names told, and some of them cited.
func (a *author) tell() {
	for _, name := range []string{"a", "b", "c", "d"} {
		if a.Intn(3) > 0 {
			a.unit.Cites = append(a.unit.Cites, name)
		}
		if a.Intn(4) == 0 {
			a.told = append(a.told, api.Told{Name: name})
		}
		if a.Intn(6) > 0 {
			a.told = append(a.told, api.Told{Name: name, Is: true, Says: byWords(a.any())})
		}
	}
	a.Shuffle(len(a.told), func(i, j int) { a.told[i], a.told[j] = a.told[j], a.told[i] })
	a.Shuffle(len(a.unit.Cites), func(i, j int) {
		a.unit.Cites[i], a.unit.Cites[j] = a.unit.Cites[j], a.unit.Cites[i]
	})
}

// add adds a step that follows, if that was one of those that are tried.
func (a *author) add() {
	count := len(a.plains)
	switch a.Intn(6) {
	case 0:
		if count > 0 {
			from, x := 1+a.Intn(count), samples.AnyVariable(a)
			a.step(api.Step{By: api.ByGen, A: from, B: x, Says: node(api.All, x, a.plains[from-1])})
			return
		}
	case 1:
		if count > 0 {
			// The step, and with an instance of schema 1 an implication from it.
			from := 1 + a.Intn(count)
			implied := node(api.Imp, 0, byWords(a.any()), a.plains[from-1])
			a.step(api.Step{By: api.ByAxiom, A: 1, Says: node(api.Imp, 0, a.plains[from-1], implied)})
			a.step(api.Step{By: api.ByDetach, A: from, B: count + 1, Says: implied})
			return
		}
	case 2, 3:
		if len(a.told) > 0 {
			told := a.told[a.Intn(len(a.told))]
			if told.Is {
				a.step(api.Step{By: api.ByCite, Cite: told.Name, Says: told.Says})
				return
			}
		}
	}
	a.axiom()
}

// axiom adds an instance of some schema.
func (a *author) axiom() {
	for {
		k := 1 + a.Intn(7)
		x, t, u := 0, samples.AnyTerm(a, 2), samples.AnyTerm(a, 2)
		p, q, s := byWords(a.any()), byWords(a.any()), byWords(a.any())
		if k == 4 || k == 5 {
			x = samples.AnyVariable(a)
		}
		list := [][]api.Expr{{p, q}, {p, q, s}, {p, q}, {p, t}, {p, q}, {t}, {t, u, p, p}}[k-1]
		if e, fault := schema.Make(k, api.Parts{List: list, Var: x}); fault == api.OK {
			a.step(api.Step{By: api.ByAxiom, A: k, Says: e})
			return
		}
	}
}

// step adds a step that says a formula in its plain form, written with some abbreviations.
func (a *author) step(s api.Step) {
	a.plains = append(a.plains, s.Says)
	s.Says = a.fold(s.Says)
	a.unit.Steps = append(a.unit.Steps, s)
}

// fold returns a formula with the same plain form, in which there are some abbreviations.
func (a *author) fold(e api.Expr) api.Expr {
	var kids []api.Expr
	for _, kid := range e.Kids {
		kids = append(kids, a.fold(kid))
	}
	e = node(e.Kind, e.Id, kids...)
	not := func(e api.Expr) bool { return e.Kind == api.Not }
	switch {
	case a.Intn(2) == 0:
	case not(e) && kids[0].Kind == api.Imp && not(kids[0].Kids[1]):
		return node(api.And, 0, kids[0].Kids[0], kids[0].Kids[1].Kids[0])
	case e.Kind == api.Imp && not(kids[0]):
		return node(api.Or, 0, kids[0].Kids[0], kids[1])
	case not(e) && kids[0].Kind == api.All && not(kids[0].Kids[0]):
		return node(api.Some, kids[0].Id, kids[0].Kids[0].Kids[0])
	}
	return e
}

// spoil changes a step a little.
func (a *author) spoil() {
	s := &a.unit.Steps[a.Intn(len(a.unit.Steps))]
	switch a.Intn(6) {
	case 0:
		s.Says = a.any()
	case 1:
		s.Says = a.unit.Steps[a.Intn(len(a.unit.Steps))].Says
	case 2:
		i := a.Intn(len(a.unit.Steps))
		*s, a.unit.Steps[i] = a.unit.Steps[i], *s
	case 3:
		if s.By == api.ByCite {
			s.Cite = string(rune('a' + a.Intn(5)))
		} else {
			s.A = a.Intn(len(a.unit.Steps) + 2)
		}
	case 4:
		switch s.By {
		case api.ByDetach:
			s.B = a.Intn(len(a.unit.Steps) + 2)
		case api.ByGen:
			s.B = samples.AnyVariable(a)
		}
	case 5:
		if len(a.told) > 0 {
			a.told[a.Intn(len(a.told))].Says = a.plains[a.Intn(len(a.plains))]
		}
	}
}

// byWords is the plain form by the words of chapter 8.
func byWords(e api.Expr) api.Expr {
	var kids []api.Expr
	for _, kid := range e.Kids {
		kids = append(kids, byWords(kid))
	}
	negation := func(a api.Expr) api.Expr { return node(api.Not, 0, a) }
	switch e.Kind {
	case api.And:
		return negation(node(api.Imp, 0, kids[0], negation(kids[1])))
	case api.Or:
		return node(api.Imp, 0, negation(kids[0]), kids[1])
	case api.Some:
		return negation(node(api.All, e.Id, negation(kids[0])))
	}
	return node(e.Kind, e.Id, kids...)
}

// judged is what the words of the chapter say of a step, but for the last one: the texts are those of plain forms.
func judged(u api.Unit, told []api.Told, k int) api.Errno {
	text := func(number int) string { return samples.Text(byWords(u.Steps[number-1].Says)) }
	ahead := func(number int) bool { return number >= 1 && number <= k-1 }
	step := u.Steps[k-1]
	switch step.By {
	case api.ByAxiom:
		if list, _ := schema.Which(byWords(step.Says)); !slices.Contains(list, step.A) {
			return api.ErrAxiom
		}
	case api.ByDetach:
		if !ahead(step.A) || !ahead(step.B) {
			return api.ErrStep
		}
		implication := byWords(u.Steps[step.B-1].Says)
		if implication.Kind != api.Imp || samples.Text(implication.Kids[0]) != text(step.A) {
			return api.ErrDetach
		}
		if samples.Text(implication.Kids[1]) != text(k) {
			return api.ErrLess
		}
	case api.ByGen:
		if !ahead(step.A) {
			return api.ErrStep
		}
		if samples.Text(node(api.All, step.B, byWords(u.Steps[step.A-1].Says))) != text(k) {
			return api.ErrGen
		}
	case api.ByCite:
		i := slices.IndexFunc(told, func(t api.Told) bool { return t.Name == step.Cite })
		switch {
		case !slices.Contains(u.Cites, step.Cite):
			return api.ErrCite
		case i < 0 || !told[i].Is:
			return api.ErrAbsent
		case samples.Text(told[i].Says) != text(k):
			return api.ErrOther
		}
	}
	return api.OK
}

// verdictOf is what the words of the chapter say of a unit.
func verdictOf(u api.Unit, told []api.Told) api.Verdict {
	for k := 1; k <= len(u.Steps); k++ {
		if fault := judged(u, told, k); fault != api.OK {
			return bad(k, fault)
		}
	}
	last := u.Steps[len(u.Steps)-1].Says
	if !expr.Same(byWords(last), byWords(u.States)) {
		return bad(len(u.Steps), api.ErrStates)
	}
	return good
}

// P10.1, P10.2: as the words say it, for arbitrary units.
func TestByWords(t *testing.T) {
	r := rand.New(rand.NewSource(10))
	seen := map[api.Errno]int{}
	for range 2500 {
		s, told := write(t, r)
		u, fault, _ := unit.Parse(s)
		if fault != api.OK {
			t.Fatal(s, fault)
		}
		want := verdictOf(u, told)
		steps := want.Step + 1
		if want.Good {
			steps = len(u.Steps) + 1
		}
		seen[want.Code]++
		goes(t, s, told, steps, want)
	}
	for _, fault := range []api.Errno{
		api.OK, api.ErrAxiom, api.ErrStep, api.ErrDetach, api.ErrLess, api.ErrGen, api.ErrCite, api.ErrAbsent, api.ErrOther, api.ErrStates,
	} {
		if seen[fault] < 20 {
			t.Errorf("%d: only %d of the samples", fault, seen[fault])
		}
	}
}
