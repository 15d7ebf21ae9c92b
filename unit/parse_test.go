package unit

import (
	"slices"
	"strconv"
	"strings"
	"testing"

	"organon/api"
	"organon/samples"
)

// accepts fails unless Parse(s) is want.
func accepts(t *testing.T, s string, want api.Unit) {
	t.Helper()
	u, fault, at := Parse(s)
	if !same(u, want) || fault != api.OK || at != 0 {
		t.Errorf("%s: %v, %d, %d; want %v", short(s), u, fault, at, want)
	}
}

// refuses fails unless Parse(s) is nothing, the error and the line.
func refuses(t *testing.T, s string, want api.Errno, line int) {
	t.Helper()
	u, fault, at := Parse(s)
	if !isZero(u) || fault != want || at != line {
		t.Errorf("%s: %v, %d, %d; want %d, %d", short(s), u, fault, at, want, line)
	}
}

// P9.4: the rows of the examples.
func TestParseExamples(t *testing.T) {
	first := lined("cites a b", "states (P0 > P0)")
	u := citing("a", "b")
	u.States = must(t, "(P0 > P0)")
	u.Steps = []api.Step{{Says: u.States, By: api.ByCite, Cite: "a"}}
	accepts(t, first+"1 (P0 > P0) : cite a\n", u)

	refuses(t, "", api.ErrLine, 1)
	refuses(t, "cites\n", api.ErrLine, 2)
	refuses(t, "cites\nstates P0\n", api.ErrLine, 3)
	refuses(t, "cites a a\n", api.ErrTwice, 1)
	refuses(t, "cites  a\n", api.ErrName, 1)
	refuses(t, "citesa\n", api.ErrLine, 1)

	for line, want := range map[string]api.Errno{
		"2 P0 : axiom 1":    api.ErrLine,
		"1 P0 : axiom 01":   api.ErrLine,
		"1 P0 : cite A":     api.ErrName,
		"1 P0( : axiom 1":   api.ErrToken,
		"1 P0 :axiom 1":     api.ErrLine,
		"1 P0 : gen 1 x64":  api.ErrLine,
		"1 (P0 > P0) : odd": api.ErrLine,
	} {
		refuses(t, first+line+"\n", want, 3)
		refuses(t, first+line, want, 3)
	}
	refuses(t, "hello", api.ErrLine, 1)
}

// P9.4: the lines end at line feeds; the last one may do without.
func TestParseLines(t *testing.T) {
	u := small(2)
	s := lined("cites", "states P0", "1 P0 : axiom 1", "2 P0 : axiom 1")
	accepts(t, s, u)
	accepts(t, s[:len(s)-1], u)
	refuses(t, s+"\n", api.ErrLine, 5)
	refuses(t, s+" ", api.ErrLine, 5)
	refuses(t, "\n"+s, api.ErrLine, 1)
	refuses(t, "\n", api.ErrLine, 1)
	refuses(t, "\n\n\n", api.ErrLine, 1)
	refuses(t, "cites", api.ErrLine, 2)
	refuses(t, "cites\n\n", api.ErrLine, 2)
	refuses(t, "cites\n\nstates P0\n1 P0 : axiom 1\n", api.ErrLine, 2)
	refuses(t, "cites\nstates P0", api.ErrLine, 3)
	refuses(t, "cites\nstates P0\n\n", api.ErrLine, 3)
	refuses(t, "cites\nstates P0\n\n1 P0 : axiom 1\n", api.ErrLine, 3)
	// Only byte 10 ends a line.
	for _, end := range []string{"\r\n", "\r", "\v", "\f", "\x00", "\u0085", "\u2028"} {
		refuses(t, strings.ReplaceAll(s, "\n", end), api.ErrLine, 1)
		refuses(t, "cites\nstates P0"+end+"\n1 P0 : axiom 1\n", api.ErrByte, 2)
		refuses(t, "cites\nstates P0\n1 P0 : axiom 1"+end+"\n", api.ErrLine, 3)
		refuses(t, "cites a"+end+"\nstates P0\n1 P0 : axiom 1\n", api.ErrName, 1)
	}
}

// P9.4: line 1.
func TestParseCites(t *testing.T) {
	rest := "\nstates P0\n1 P0 : axiom 1\n"
	for count := range 9 {
		accepts(t, strings.Join(append([]string{"cites"}, names(count)...), " ")+rest, citing(names(count)...))
	}
	accepts(t, "cites cites states self abcdefghijkl"+rest, citing("cites", "states", "self", "abcdefghijkl"))
	for line, want := range map[string]api.Errno{
		"":            api.ErrLine,
		"cite":        api.ErrLine,
		"cite a":      api.ErrLine,
		"Cites":       api.ErrLine,
		" cites":      api.ErrLine,
		"cites\ta":    api.ErrLine,
		"cites:":      api.ErrLine,
		"cites-a":     api.ErrLine,
		"citescites":  api.ErrLine,
		"a cites":     api.ErrLine,
		"cites\r":     api.ErrLine,
		"cites ":      api.ErrName,
		"cites  ":     api.ErrName,
		"cites a ":    api.ErrName,
		"cites a  b":  api.ErrName,
		"cites a\tb":  api.ErrName,
		"cites \ta":   api.ErrName,
		"cites a, b":  api.ErrName,
		"cites a a":   api.ErrTwice,
		"cites a b a": api.ErrTwice,
		"cites a a A": api.ErrTwice,
		"cites a A a": api.ErrName,
		"cites A A":   api.ErrName,
		"states P0":   api.ErrLine,
	} {
		refuses(t, line, want, 1)
		refuses(t, line+rest, want, 1)
	}
	eight := "cites " + strings.Join(names(8), " ")
	refuses(t, eight+" x"+rest, api.ErrLong, 1)
	refuses(t, eight+" n3"+rest, api.ErrTwice, 1)
	refuses(t, eight+" X"+rest, api.ErrName, 1)
	refuses(t, eight+" "+rest, api.ErrName, 1)
	refuses(t, eight+" x X", api.ErrLong, 1)
	refuses(t, eight+" x x", api.ErrLong, 1)
	refuses(t, "cites "+strings.Join(names(3000), " "), api.ErrLong, 1)
	refuses(t, "cites"+strings.Repeat(" ", 19000), api.ErrName, 1)
	for _, bad := range badNames() {
		refuses(t, "cites "+bad+rest, api.ErrName, 1)
		refuses(t, "cites a "+bad+" a"+rest, api.ErrName, 1)
	}
}

// formulaTexts returns texts of formulas and what parse.Formula, or what may be written, makes of them.
func formulaTexts() map[string]api.Errno {
	return map[string]api.Errno{
		"P0": api.OK, " P0": api.OK, "\tP0\t ": api.OK, "(P0>P0)": api.OK, "( P0\t>  P0 )": api.OK,
		"":                               api.ErrToken,
		" ":                              api.ErrToken,
		"x0":                             api.ErrToken,
		"(P0 > P0":                       api.ErrToken,
		"P0 P0":                          api.ErrToken,
		"P0 #":                           api.ErrByte,
		"p0":                             api.ErrByte,
		"P0\r":                           api.ErrByte,
		"é":                              api.ErrByte,
		"x64 = x0":                       api.ErrNumber,
		"P100":                           api.ErrNumber,
		"P00":                            api.ErrNumber,
		"P":                              api.ErrNumber,
		formula(sized(300)):              api.OK,
		formula(sized(301)):              api.ErrMany,
		formula(sized(1000)):             api.ErrMany,
		strings.Repeat("!", 1000) + "P0": api.ErrMany,
		strings.Repeat("!", 29) + "P0":   api.OK,
		strings.Repeat("!", 30) + "P0":   api.ErrDeep,
		strings.Repeat("!", 99) + "P0":   api.ErrDeep,
		// parse.Formula tells the depth of a formula with more nodes than can be written, if it is beyond its own limit.
		strings.Repeat("!", 299) + "P0":                                     api.ErrDeep,
		strings.Repeat("!", 300) + "P0":                                     api.ErrDeep,
		strings.Repeat("!", 999) + "P0":                                     api.ErrDeep,
		"(" + strings.Repeat("!", 29) + "P0 > " + formula(sized(269)) + ")": api.ErrDeep,
		"(" + strings.Repeat("!", 29) + "P0 > " + formula(sized(270)) + ")": api.ErrMany,
		"P0" + strings.Repeat(" ", 7998):                                    api.OK,
		"P0" + strings.Repeat(" ", 7999):                                    api.ErrLong,
		strings.Repeat("#", 8001):                                           api.ErrLong,
	}
}

// P9.4: line 2.
func TestParseStates(t *testing.T) {
	for text, want := range formulaTexts() {
		s := "cites\nstates " + text + "\n1 P0 : axiom 1\n"
		if want == api.OK {
			accepts(t, s, stating(samples.Read(text)))
		} else {
			refuses(t, s, want, 2)
			refuses(t, "cites\nstates "+text, want, 2)
		}
	}
	accepts(t, "cites\nstates \t P0\n1 P0 : axiom 1\n", small(1))
	for _, line := range []string{"", "states", "states\tP0", "statesP0", "States P0", " states P0", "state P0", "states:P0", "1 P0 : axiom 1", "cites"} {
		refuses(t, "cites\n"+line+"\n1 P0 : axiom 1\n", api.ErrLine, 2)
		refuses(t, "cites\n"+line+"\n", api.ErrLine, 2)
	}
	refuses(t, "cites\nstates P0 : axiom 1\n1 P0 : axiom 1\n", api.ErrByte, 2)
	refuses(t, "cites\nstates states P0\n1 P0 : axiom 1\n", api.ErrByte, 2)
	refuses(t, "cites\nstates ", api.ErrToken, 2)
}

// P9.4: the formula of a step is what is between the number and the first colon.
func TestParseSays(t *testing.T) {
	for text, want := range formulaTexts() {
		for _, steps := range []int{1, 12} {
			s := lined("cites", "states P0")
			for i := range steps - 1 {
				s += strconv.Itoa(i+1) + " P0 : axiom 1\n"
			}
			s += strconv.Itoa(steps) + " " + text + ": axiom 1\n"
			if want == api.OK {
				accepts(t, s, saying(steps, samples.Read(text)))
			} else {
				refuses(t, s, want, 2+steps)
				refuses(t, s[:len(s)-1], want, 2+steps)
			}
		}
	}
}

// P9.4: the lines of steps that are none.
func TestParseStepLines(t *testing.T) {
	first := lined("cites", "states P0")
	accepts(t, first+"1  \tP0\t: axiom 1\n", small(1))
	for line, want := range map[string]api.Errno{
		"1 P0 axiom 1":         api.ErrLine,
		"1":                    api.ErrLine,
		"1 ":                   api.ErrLine,
		":":                    api.ErrLine,
		"1: axiom 1":           api.ErrLine,
		"1:":                   api.ErrLine,
		"1 :":                  api.ErrLine,
		"1 : axiom 1":          api.ErrToken,
		"1  : axiom 1":         api.ErrToken,
		": 1 P0 : axiom 1":     api.ErrLine,
		": axiom 1":            api.ErrLine,
		" : axiom 1":           api.ErrLine,
		"P0 : axiom 1":         api.ErrLine,
		" 1 P0 : axiom 1":      api.ErrLine,
		"1\tP0 : axiom 1":      api.ErrLine,
		"1P0 : axiom 1":        api.ErrLine,
		"01 P0 : axiom 1":      api.ErrLine,
		"+1 P0 : axiom 1":      api.ErrLine,
		"-1 P0 : axiom 1":      api.ErrLine,
		"0 P0 : axiom 1":       api.ErrLine,
		"2 P0 : axiom 1":       api.ErrLine,
		"11 P0 : axiom 1":      api.ErrLine,
		"１ P0 : axiom 1":       api.ErrLine,
		"1 P0 : axiom 1 ":      api.ErrLine,
		"1 P0 : axiom 1 : ":    api.ErrLine,
		"1 P0 : : axiom 1":     api.ErrLine,
		"1 P0 :: axiom 1":      api.ErrLine,
		"1 P0 :\taxiom 1":      api.ErrLine,
		"1 P0 :  axiom 1":      api.ErrLine,
		"1 P0 : axiom  1":      api.ErrLine,
		"1 P0 : axiom\t1":      api.ErrLine,
		"1 P0 : ":              api.ErrLine,
		"1 P0 :":               api.ErrLine,
		"1 1 P0 : axiom 1":     api.ErrByte,
		"1 P0 : axiom 1\t":     api.ErrLine,
		"cites":                api.ErrLine,
		"states P0":            api.ErrLine,
		"1 (P0 > : cite a":     api.ErrToken,
		"1 (P0 > : cite A":     api.ErrName,
		"1 (P0 > : cite A a":   api.ErrLine,
		"2 (P0 > : cite A":     api.ErrLine,
		"1 # P0 : axiom 01":    api.ErrLine,
		"1 P0 # axiom 1":       api.ErrLine,
		"1 x99 = x0 : axiom 1": api.ErrNumber,
	} {
		refuses(t, first+line+"\n", want, 3)
		refuses(t, first+line, want, 3)
		refuses(t, first+line+"\n1 P0( : axiom 1\n", want, 3)
	}
}

// P9.4: each reason.
func TestParseReasons(t *testing.T) {
	first := lined("cites", "states P0") + "1 P0 : "
	for reason, want := range map[string]api.Step{
		"axiom 0":                    {By: api.ByAxiom, A: 0},
		"axiom 7":                    {By: api.ByAxiom, A: 7},
		"axiom 100":                  {By: api.ByAxiom, A: 100},
		"axiom 999999999":            {By: api.ByAxiom, A: 999999999},
		"detach 0 0":                 {By: api.ByDetach},
		"detach 1 20":                {By: api.ByDetach, A: 1, B: 20},
		"detach 999999999 123456789": {By: api.ByDetach, A: 999999999, B: 123456789},
		"gen 0 x0":                   {By: api.ByGen},
		"gen 12 x63":                 {By: api.ByGen, A: 12, B: 63},
		"gen 999999999 x9":           {By: api.ByGen, A: 999999999, B: 9},
		"cite a":                     {By: api.ByCite, Cite: "a"},
		"cite cite":                  {By: api.ByCite, Cite: "cite"},
		"cite a-0":                   {By: api.ByCite, Cite: "a-0"},
		"cite abcdefghijkl":          {By: api.ByCite, Cite: "abcdefghijkl"},
	} {
		u := small(1)
		want.Says = u.States
		u.Steps = []api.Step{want}
		accepts(t, first+reason+"\n", u)
		accepts(t, first+reason, u)
		refuses(t, first+reason+" \n", api.ErrLine, 3)
		refuses(t, first+reason+" 1", api.ErrLine, 3)
		refuses(t, first+reason+" a", api.ErrLine, 3)
		refuses(t, first+" "+reason, api.ErrLine, 3)
		refuses(t, first+strings.ToUpper(reason), api.ErrLine, 3)
		refuses(t, first+strings.Replace(reason, " ", "  ", 1), api.ErrLine, 3)
		refuses(t, first+strings.ReplaceAll(reason, " ", "\t"), api.ErrLine, 3)
		refuses(t, first+strings.ReplaceAll(reason, " ", ""), api.ErrLine, 3)
	}
	for _, reason := range []string{
		"axiom", "axiom ", "axiom 1 2", "axiom x1", "axiom 1a", "detach", "detach 1", "detach 1 ", "detach 1 2 3", "detach 1 x2", "detach  1",
		"gen", "gen 1", "gen 1 ", "gen 1 2", "gen x1", "gen x1 1", "gen 1 x", "gen 1 X1", "gen 1 x1 x2", "gen 1 xx1", "gen 1 x 1", "gen 1 x1x",
		"gen 1 f1", "gen 1 x63a", "cite", "cite a b", "cite A b", "cite  a", "cite a ", "cites a", "assume", "assume 1", "1", "x", "a", "axioms 1", "axio 1",
	} {
		refuses(t, first+reason+"\n", api.ErrLine, 3)
		refuses(t, first+reason, api.ErrLine, 3)
	}
	for _, bad := range badNames() {
		refuses(t, first+"cite "+bad+"\n", api.ErrName, 3)
	}
	refuses(t, first+"cite a:b", api.ErrName, 3)
	refuses(t, first+"cite :", api.ErrName, 3)
}

// P9.4, R7: the numbers of the reasons.
func TestParseNumbers(t *testing.T) {
	first := lined("cites", "states P0") + "1 P0 : "
	for _, number := range []string{
		"", "00", "01", "000000001", "-1", "-0", "+1", "1.0", "1e3", "0x1", "1_0", "1,0", "１", "x1", "1000000000", "0000000001", "9999999999",
		"99999999999999999999999", "18446744073709551617", "4294967297", strings.Repeat("1", 10000), "1\x00", "/", ";",
	} {
		for _, reason := range []string{"axiom " + number, "detach " + number + " 1", "detach 1 " + number, "gen " + number + " x1", "gen 1 x" + number} {
			refuses(t, first+reason+"\n", api.ErrLine, 3)
		}
	}
	for x := range 200 {
		s := first + "gen 3 x" + strconv.Itoa(x) + "\n"
		if x > 63 {
			refuses(t, s, api.ErrLine, 3)
		} else {
			u := small(1)
			u.Steps[0] = api.Step{Says: u.States, By: api.ByGen, A: 3, B: x}
			accepts(t, s, u)
		}
	}
}

// stepLines returns the lines of a unit with so many steps.
func stepLines(steps int) []string {
	lines := []string{"cites", "states P0"}
	for i := range steps {
		lines = append(lines, strconv.Itoa(i+1)+" P0 : axiom 1")
	}
	return lines
}

// P9.4: the number of steps, and that of the line of a fault.
func TestParseSteps(t *testing.T) {
	for _, steps := range []int{1, 2, 9, 10, 11, 59, 60} {
		accepts(t, lined(stepLines(steps)...), small(steps))
	}
	for _, line := range []string{"61 P0 : axiom 1", "1 P0 : axiom 1", "", "61 P0( : cite A", " ", "cites"} {
		for _, more := range []int{0, 1, 100} {
			lines := append(stepLines(60), slices.Repeat([]string{line}, 1+more)...)
			refuses(t, lined(lines...), api.ErrLong, 63)
		}
	}
	for at := range 60 {
		for line, want := range map[string]api.Errno{
			" P0 : axiom 01": api.ErrLine, " P0 : cite A": api.ErrName, " P0 P0 : axiom 1": api.ErrToken, " !" + strings.Repeat("!", 30) + "P0 : axiom 1": api.ErrDeep,
		} {
			lines := stepLines(60)
			lines[2+at] = strconv.Itoa(at+1) + line
			refuses(t, lined(lines...), want, 3+at)
			// The first line with an error decides.
			refuses(t, lined(append(lines, "x")...), want, 3+at)
		}
		for _, number := range []int{at, at + 2, -at - 1, 10*(at+1) + 1, 0} {
			lines := stepLines(60)
			lines[2+at] = strconv.Itoa(number) + " P0 : axiom 1"
			refuses(t, lined(lines...), api.ErrLine, 3+at)
		}
		if lines := stepLines(60); at < 59 {
			refuses(t, lined(slices.Delete(lines, 2+at, 3+at)...), api.ErrLine, 3+at)
		}
	}
}

// P9.4: how long a text may be; that it is too long comes first.
func TestParseLong(t *testing.T) {
	for length := 19998; length <= 20003; length++ {
		_, s := long(t, length)
		u, _ := long(t, length)
		if length <= 20000 {
			accepts(t, s, u)
		} else {
			refuses(t, s, api.ErrLong, 0)
		}
		blanks := strings.Repeat(" ", 6000)
		s = "cites\nstates " + blanks + "P0\n1 P0" + blanks + ": axiom 1\n2 " + blanks
		s += strings.Repeat(" ", length-len(s)-len("P0: axiom 1\n")) + "P0: axiom 1\n"
		if length <= 20000 {
			accepts(t, s, small(2))
		} else {
			refuses(t, s, api.ErrLong, 0)
		}
	}
	for _, s := range []string{"x", "\n", " ", "Cites A ", "\xff"} {
		refuses(t, strings.Repeat(s, 20001), api.ErrLong, 0)
		refuses(t, strings.Repeat(s, 1<<20), api.ErrLong, 0)
		refuses(t, strings.Repeat(s, 20000/len(s)), api.ErrLine, 1)
	}
	refuses(t, "cites\nstates "+strings.Repeat(" ", 19000), api.ErrLong, 2)
	refuses(t, "cites\n"+strings.Repeat("\n", 19000), api.ErrLine, 2)
}
