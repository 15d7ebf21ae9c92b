package unit

import (
	"strconv"
	"strings"

	"organon/api"
	"organon/parse"
)

// The lines of a text ahead of the steps, and the line of the first step.
const (
	citesLine = 1
	stateLine = 2
	firstStep = 3
)

// read returns the unit whose text s is, or what was read of it, the first error and the number of its line.
func read(s string) (api.Unit, api.Errno, int) {
	var u api.Unit
	fault, at := api.OK, 0
lines:
	for line := range strings.Lines(s) {
		at++
		line = strings.TrimSuffix(line, "\n")
		switch at {
		case citesLine:
			if u.Cites, fault = readCites(line); fault != api.OK {
				break lines
			}
		case stateLine:
			if u.States, fault = readStatement(line); fault != api.OK {
				break lines
			}
		default:
			var step api.Step
			if step, fault = readStep(line, at-firstStep+1); fault != api.OK {
				break lines
			}
			u.Steps = append(u.Steps, step)
		}
	}
	if fault == api.OK && at < firstStep {
		return u, api.ErrLine, at + 1
	}
	return u, fault, at
}

func readCites(line string) ([]string, api.Errno) {
	words := strings.Split(line, " ")
	if words[0] != "cites" {
		return nil, api.ErrLine
	}
	if fault := citesFault(words[1:]); fault != api.OK {
		return nil, fault
	}
	var names []string
	for _, name := range words[1:] {
		names = append(names, strings.Clone(name))
	}
	return names, api.OK
}

func readStatement(line string) (api.Expr, api.Errno) {
	text, is := strings.CutPrefix(line, "states ")
	if !is {
		return api.Expr{}, api.ErrLine
	}
	return readFormula(text)
}

func readFormula(text string) (api.Expr, api.Errno) {
	e, fault, _ := parse.Formula(text)
	if fault != api.OK {
		return api.Expr{}, fault
	}
	if fault := formulaFault(e); fault != api.OK {
		return api.Expr{}, fault
	}
	return e, api.OK
}

// readStep returns the step with the given number.
func readStep(line string, number int) (api.Step, api.Errno) {
	if number > api.MaxSteps {
		return api.Step{}, api.ErrLong
	}
	// Behind a colon that is missing nothing stands, which is no reason.
	said, behind, _ := strings.Cut(line, ":")
	formula, numbered := strings.CutPrefix(said, strconv.Itoa(number)+" ")
	reason, apart := strings.CutPrefix(behind, " ")
	step, justified := readReason(reason)
	if !numbered || !apart || !justified {
		return api.Step{}, api.ErrLine
	}
	if step.By == api.ByCite && !Name(step.Cite) {
		return api.Step{}, api.ErrName
	}
	e, fault := readFormula(formula)
	if fault != api.OK {
		return api.Step{}, fault
	}
	step.Says = e
	return step, api.OK
}

// readReason returns a step that says nothing, with the justification that is written; whatever a step cites may be a name.
func readReason(text string) (api.Step, bool) {
	words := strings.Split(text, " ")
	switch kind := words[0]; {
	case kind == "axiom" && len(words) == 2:
		a, is := readNumber(words[1])
		return api.Step{By: api.ByAxiom, A: a}, is
	case kind == "detach" && len(words) == 3:
		a, isA := readNumber(words[1])
		b, isB := readNumber(words[2])
		return api.Step{By: api.ByDetach, A: a, B: b}, isA && isB
	case kind == "gen" && len(words) == 3:
		a, isA := readNumber(words[1])
		x, isX := readVariable(words[2])
		return api.Step{By: api.ByGen, A: a, B: x}, isA && isX
	case kind == "cite" && len(words) == 2:
		return api.Step{By: api.ByCite, Cite: strings.Clone(words[1])}, true
	}
	return api.Step{}, false
}

func readVariable(word string) (int, bool) {
	digits, is := strings.CutPrefix(word, "x")
	if !is {
		return 0, false
	}
	n, is := readNumber(digits)
	return n, is && isVariable(n)
}

// readNumber returns a number without leading zeros.
func readNumber(word string) (int, bool) {
	if len(word) < 1 || len(word) > maxDigits || word[0] == '0' && len(word) > 1 {
		return 0, false
	}
	n := 0
	for i := range len(word) {
		if !isDigit(word[i]) {
			return 0, false
		}
		n = 10*n + int(word[i]-'0')
	}
	return n, true
}
