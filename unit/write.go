package unit

import (
	"strconv"
	"strings"

	"organon/api"
	"organon/parse"
)

// written returns the text of a valid unit, however long it is.
func written(u api.Unit) string {
	var text strings.Builder
	text.WriteString("cites")
	for _, name := range u.Cites {
		text.WriteString(" " + name)
	}
	text.WriteString("\nstates " + formula(u.States) + "\n")
	for i, step := range u.Steps {
		text.WriteString(strconv.Itoa(i+1) + " " + formula(step.Says) + " : " + reason(step) + "\n")
	}
	return text.String()
}

// formula returns the text of a valid formula.
func formula(e api.Expr) string {
	s, _ := parse.Print(e)
	return s
}

func reason(s api.Step) string {
	a, b := strconv.Itoa(s.A), strconv.Itoa(s.B)
	switch s.By {
	case api.ByAxiom:
		return "axiom " + a
	case api.ByDetach:
		return "detach " + a + " " + b
	case api.ByGen:
		return "gen " + a + " x" + b
	}
	return "cite " + s.Cite
}
