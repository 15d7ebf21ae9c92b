package unit

import (
	"math/rand"
	"regexp"
	"slices"
	"strconv"
	"strings"
	"testing"

	"organon/api"
	"organon/expr"
	"organon/parse"
	"organon/rule"
)

// kept fails unless u is valid, its statement has a plain form, and its text, if that is not too long, is parsed as u.
func kept(t *testing.T, u api.Unit) {
	t.Helper()
	if fault := Right(u); fault != api.OK {
		t.Errorf("%v: %d", u, fault)
	}
	if _, fault := rule.Plain(u.States); fault != api.OK {
		t.Errorf("%v has no plain form: %d", u.States, fault)
	}
	s, fault := Print(u)
	if fault == api.ErrLong && len(written(u)) > api.MaxUnit {
		return
	}
	if fault != api.OK {
		t.Errorf("%v: %d", u, fault)
	}
	accepts(t, s, u)
}

// P9.6: arbitrary units.
func TestPrintedIsParsed(t *testing.T) {
	r := rand.New(rand.NewSource(96))
	for range 2000 {
		kept(t, anyUnit(r))
	}
}

// P9.6: a text that is parsed may be too long when it is printed.
func TestParsedIsPrinted(t *testing.T) {
	dense := "(" + strings.Repeat("P0&(", 28) + "P0|P0" + strings.Repeat(")", 29)
	s := "cites\nstates P0\n"
	for i := range 60 {
		s += strconv.Itoa(i+1) + " " + dense + ": axiom 1\n"
	}
	u, fault, at := Parse(s)
	if fault != api.OK || at != 0 || len(u.Steps) != 60 {
		t.Fatal(len(s), fault, at)
	}
	kept(t, u)
	s = strings.Repeat(" ", 100)
	s = "cites\nstates" + s + "P0\n1" + s + "P0" + s + ": axiom 1\n2 (P0" + s + ">P0):" + " detach 1 1"
	u, fault, at = Parse(s)
	if fault != api.OK || at != 0 {
		t.Fatal(fault, at)
	}
	kept(t, u)
}

// words are the forms of the chapter.
type words struct {
	name, cites, axiom, detach, gen, cite *regexp.Regexp
}

func theWords() words {
	const number = `(0|[1-9][0-9]{0,8})`
	return words{
		name:   regexp.MustCompile(`^[a-z][a-z0-9-]{0,11}\z`),
		cites:  regexp.MustCompile(`^cites((?: [^ ]*)*)\z`),
		axiom:  regexp.MustCompile(`^ axiom ` + number + `\z`),
		detach: regexp.MustCompile(`^ detach ` + number + ` ` + number + `\z`),
		gen:    regexp.MustCompile(`^ gen ` + number + ` x([0-9]|[1-5][0-9]|6[0-3])\z`),
		cite:   regexp.MustCompile(`^ cite ([^ ]*)\z`),
	}
}

// citedBy is what the words say of the first line.
func (w words) citedBy(line string) ([]string, api.Errno) {
	found := w.cites.FindStringSubmatch(line)
	if found == nil {
		return nil, api.ErrLine
	}
	var list []string
	for _, name := range strings.Split(found[1], " ")[1:] {
		before := len(list)
		if !w.name.MatchString(name) {
			return nil, api.ErrName
		}
		if slices.Contains(list, name) {
			return nil, api.ErrTwice
		}
		if before >= 8 {
			return nil, api.ErrLong
		}
		list = append(list, name)
	}
	return list, api.OK
}

// formulaOf is what the words say of a formula's text.
func formulaOf(text string) (api.Expr, api.Errno) {
	e, fault, _ := parse.Formula(text)
	if fault == api.OK && expr.Size(e) > 300 {
		fault = api.ErrMany
	}
	if fault == api.OK && expr.Depth(e) > 30 {
		fault = api.ErrDeep
	}
	return e, fault
}

// reasonOf is what the words say of what follows the colon.
func (w words) reasonOf(text string) (api.Step, bool) {
	number := func(s string) int { n, _ := strconv.Atoi(s); return n }
	if found := w.axiom.FindStringSubmatch(text); found != nil {
		return api.Step{By: 1, A: number(found[1])}, true
	}
	if found := w.detach.FindStringSubmatch(text); found != nil {
		return api.Step{By: 2, A: number(found[1]), B: number(found[2])}, true
	}
	if found := w.gen.FindStringSubmatch(text); found != nil {
		return api.Step{By: 3, A: number(found[1]), B: number(found[2])}, true
	}
	if found := w.cite.FindStringSubmatch(text); found != nil {
		return api.Step{By: 4, Cite: found[1]}, true
	}
	return api.Step{}, false
}

// stepOf is what the words say of the line of a step.
func (w words) stepOf(line string, number int) (api.Step, api.Errno) {
	if number > 60 {
		return api.Step{}, api.ErrLong
	}
	start, colon := strconv.Itoa(number)+" ", strings.Index(line, ":")
	if colon < len(start) || !strings.HasPrefix(line, start) {
		return api.Step{}, api.ErrLine
	}
	step, is := w.reasonOf(line[colon+1:])
	if !is {
		return api.Step{}, api.ErrLine
	}
	if step.By == 4 && !w.name.MatchString(step.Cite) {
		return api.Step{}, api.ErrName
	}
	e, fault := formulaOf(line[len(start):colon])
	step.Says = e
	return step, fault
}

// judged is what the words of P9.4 say of a text.
func (w words) judged(s string) (u api.Unit, fault api.Errno, at int) {
	if len(s) > 20000 {
		return u, api.ErrLong, 0
	}
	lines := strings.Split(s, "\n")
	if lines[len(lines)-1] == "" {
		lines = lines[:len(lines)-1]
	}
	for at = 1; at <= max(3, len(lines)); at++ {
		var step api.Step
		switch {
		case at > len(lines):
			fault = api.ErrLine
		case at == 1:
			u.Cites, fault = w.citedBy(lines[0])
		case at == 2 && !strings.HasPrefix(lines[1], "states "):
			fault = api.ErrLine
		case at == 2:
			u.States, fault = formulaOf(lines[1][len("states "):])
		default:
			step, fault = w.stepOf(lines[at-1], at-2)
			u.Steps = append(u.Steps, step)
		}
		if fault != api.OK {
			return api.Unit{}, fault, at
		}
	}
	return u, api.OK, 0
}

// spoiled returns a text with a small change in it.
func spoiled(r *rand.Rand, s string) string {
	pieces := []string{
		" ", " ", "\n", "\t", ":", ": ", "0", "1", "9", "x", "x63", "x64", "a", "A", "-", "(", ")", "!", "P0", ",", "cites", "states ", "cite ", "axiom ",
		"detach ", "gen ", "\r", "\xff", "1 ", "?x1 ", strings.Repeat("0", 9), " n", " b b", strings.Repeat(" ", 9000),
	}
	at := r.Intn(len(s) + 1)
	switch r.Intn(7) {
	case 0:
		end := min(len(s), at+1+r.Intn(3))
		return s[:at] + s[end:]
	case 1, 2:
		return s[:at] + pieces[r.Intn(len(pieces))] + s[at:]
	case 3:
		end := min(len(s), at+1)
		return s[:at] + pieces[r.Intn(len(pieces))] + s[end:]
	case 4:
		return s[:at] + strings.Replace(s[at:], "P", strings.Repeat("!", 10+r.Intn(30))+"P", 1)
	}
	lines := strings.SplitAfter(s, "\n")
	i, j := r.Intn(len(lines)), r.Intn(len(lines))
	switch r.Intn(4) {
	case 0:
		lines[i], lines[j] = lines[j], lines[i]
	case 1:
		lines = slices.Delete(lines, i, i+1)
	case 2:
		lines = slices.Insert(lines, i, lines[j])
	case 3:
		words := strings.SplitAfter(lines[i], " ")
		k := r.Intn(len(words))
		lines[i] = strings.Join(slices.Insert(words, k, words[r.Intn(len(words))]), "")
	}
	return strings.Join(lines, "")
}

// P9.4, P9.6: as the words say it, for arbitrary texts that are nearly those of units.
func TestParseByWords(t *testing.T) {
	r := rand.New(rand.NewSource(94))
	w := theWords()
	seen := map[api.Errno]int{}
	for range 20000 {
		s := written(anyUnit(r))
		for range r.Intn(3) {
			s = spoiled(r, s)
		}
		u, fault, at := w.judged(s)
		seen[fault]++
		if fault != api.OK {
			refuses(t, s, fault, at)
			tellsNothing(t, s)
			continue
		}
		accepts(t, s, u)
		kept(t, u)
		plain, _ := rule.Plain(u.States)
		tells(t, s, plain, u.Cites...)
	}
	for _, fault := range []api.Errno{
		api.OK, api.ErrLong, api.ErrDeep, api.ErrByte, api.ErrNumber, api.ErrToken, api.ErrLine, api.ErrName, api.ErrTwice,
	} {
		if seen[fault] < 20 {
			t.Errorf("%d: only %d of the samples", fault, seen[fault])
		}
	}
}

// P9.2, P9.3, P9.4: a unit has a text that is parsed if Right finds no fault in it.
func TestRightByText(t *testing.T) {
	r := rand.New(rand.NewSource(92))
	good, wrong := 0, 0
	for range 4000 {
		u := anyUnit(r)
		step := &u.Steps[r.Intn(len(u.Steps))]
		switch r.Intn(6) {
		case 0:
			step.A += []int{-1, 0, 1, 999999999}[r.Intn(4)]
		case 1:
			step.B += []int{-1, 0, 1, 64}[r.Intn(4)]
		case 2:
			step.Cite += []string{"", "a", "-", "A"}[r.Intn(4)]
		case 3:
			step.By = r.Intn(7) - 1
		case 4:
			u.Cites = append(u.Cites, anyName(r))
		}
		if fault := Right(u); fault != api.OK {
			wrong++
			if got, code, _ := Parse(written(u)); code == api.OK && same(got, u) {
				t.Errorf("%v: %d, and it has a text", u, fault)
			}
			continue
		}
		good++
		kept(t, u)
	}
	if good < 1000 || wrong < 1000 {
		t.Errorf("%d of the samples are valid, %d are not", good, wrong)
	}
}
