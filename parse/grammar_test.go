package parse

import (
	"math/rand"
	"slices"
	"strconv"
	"strings"
	"testing"

	"organon/api"
)

// grammar is that of the chapter: F a formula, T a term, O the terms in parentheses, if any, 3 to 0 up to so many terms more.
// A terminal is a sign, or the letter of a token.
var grammar = map[byte][]string{
	'F': {"!F", "@xF", "?xF", "(F>F)", "(F&F)", "(F|F)", "PO", "T=T"},
	'T': {"x", "fO"},
	'O': {"", "(T3)"},
	'3': {"", ",T2"},
	'2': {"", ",T1"},
	'1': {"", ",T0"},
	'0': {""},
}

const terminals = "xfP(),=!>&|@?"

// open is what may still be to come: each of these sequences of the grammar's symbols.
type open map[string]bool

// add adds what may be to come if it is rest, up to the first terminal of it.
func (o open) add(rest string) {
	if rest == "" || strings.Contains(terminals, rest[:1]) {
		o[rest] = true
		return
	}
	for _, way := range grammar[rest[0]] {
		o.add(way + rest[1:])
	}
}

// after returns what may be to come after a terminal.
func (o open) after(terminal byte) open {
	next := open{}
	for rest := range o {
		if rest != "" && rest[0] == terminal {
			next.add(rest[1:])
		}
	}
	return next
}

func start(symbol string) open {
	o := open{}
	o.add(symbol)
	return o
}

// written returns a token as text; the numbers are among the bytes of the signs.
func written(terminal byte, i int) string {
	numbers := []int{0, 62, 33, 40, 41, 44, 61, 38, 63, 10}
	s := string(terminal)
	if strings.Contains("xfP", s) {
		s += strconv.Itoa(numbers[i%len(numbers)])
	}
	return s
}

// judged is what the grammar says of a text with these terminals: whether it is all of one, and otherwise which terminal can't stand there.
func judged(symbol, list string) (bool, int) {
	o := start(symbol)
	for i := range len(list) {
		o = o.after(list[i])
		if len(o) == 0 {
			return false, i
		}
	}
	return o[""], len(list)
}

// spelled returns the text of some terminals, and where each of them, and the end, is.
func spelled(list string, blanks []string) (string, []int) {
	var s strings.Builder
	var at []int
	for i := range len(list) {
		s.WriteString(blanks[i%len(blanks)])
		at = append(at, s.Len())
		s.WriteString(written(list[i], i))
	}
	s.WriteString(blanks[len(list)%len(blanks)])
	return s.String(), append(at, s.Len())
}

// sameTokens reports whether two texts have the same tokens, wherever they stand.
func sameTokens(a, b string) bool {
	x, codeOfA, _ := Tokens(a)
	y, codeOfB, _ := Tokens(b)
	return codeOfA == api.OK && codeOfB == api.OK && slices.EqualFunc(x, y, func(p, q api.Token) bool {
		return p.Kind == q.Kind && p.N == q.N
	})
}

// obeys fails unless a call does for the text of some terminals what the grammar says.
func obeys(t *testing.T, symbol, list string, blanks []string) {
	t.Helper()
	call := map[string]func(string) (api.Expr, api.Errno, int){"F": Formula, "T": Term}[symbol]
	s, places := spelled(list, blanks)
	complete, wrong := judged(symbol, list)
	e, code, at := call(s)
	if !complete {
		if code != api.ErrToken || at != places[wrong] || !isZero(e) {
			t.Fatalf("%q: %v, %d, %d; want %d, %d", s, e, code, at, api.ErrToken, places[wrong])
		}
		return
	}
	if code != api.OK || at != 0 {
		t.Fatalf("%q: %v, %d, %d", s, e, code, at)
	}
	// The grammar has no tokens that the tree does not show.
	if text, code := Print(e); code != api.OK || !sameTokens(text, s) {
		t.Fatalf("%q is printed as %q", s, text)
	}
}

// P3.2, P3.4: all texts of a few tokens that begin as a formula, or a term, does, with each token behind them.
func TestGrammarOfAllShort(t *testing.T) {
	for symbol, most := range map[string]int{"F": 6, "T": 13} {
		count := 0
		layer := []string{""}
		for range most {
			var next []string
			for _, list := range layer {
				count++
				obeys(t, symbol, list, []string{" ", "", "\t"})
				for i := range len(terminals) {
					longer := list + terminals[i:i+1]
					if _, wrong := judged(symbol, longer); wrong == len(longer) {
						next = append(next, longer)
					} else {
						obeys(t, symbol, longer, []string{""})
						obeys(t, symbol, longer+")x", []string{"", " "})
					}
				}
			}
			layer = next
		}
		if count < 900 {
			t.Errorf("only %d texts of %s", count, symbol)
		}
	}
}

// terminalsOf returns the terminals of a text.
func terminalsOf(s string) string {
	list, _, _ := Tokens(s)
	var b strings.Builder
	for _, token := range list {
		if token.Kind == api.TokSign {
			b.WriteByte(byte(token.N))
		} else {
			b.WriteByte("?xfP"[token.Kind])
		}
	}
	return b.String()
}

// changed returns a text's terminals with one of them left out, put in, replaced or exchanged, or without the last ones.
func changed(r *rand.Rand, list string) string {
	at := r.Intn(len(list))
	other := terminals[r.Intn(len(terminals))]
	switch r.Intn(5) {
	case 0:
		return list[:at] + list[at+1:]
	case 1:
		return list[:at] + string(other) + list[at:]
	case 2:
		return list[:at] + string(other) + list[at+1:]
	case 3:
		other := r.Intn(len(list))
		b := []byte(list)
		b[at], b[other] = b[other], b[at]
		return string(b)
	}
	return list[:at]
}

// P3.2, P3.4, R1: longer texts, with a change or two.
func TestGrammarOfChanged(t *testing.T) {
	r := rand.New(rand.NewSource(3))
	for range 3000 {
		e, symbol := randomFormula(r, 4), "F"
		if r.Intn(4) == 0 {
			e, symbol = randomTerm(r, 3), "T"
		}
		text, _ := Print(e)
		list := terminalsOf(text)
		obeys(t, symbol, list, []string{""})
		list = changed(r, list)
		obeys(t, symbol, list, []string{"", " "})
		if list != "" {
			obeys(t, symbol, changed(r, list), []string{"\t", "", ""})
		}
	}
}

// P3.2: five terms, at every place.
func TestGrammarOfArguments(t *testing.T) {
	for args := 1; args <= 7; args++ {
		list := "(x" + strings.Repeat(",x", args-1) + ")"
		for _, whole := range []string{"P" + list, "P(f" + list + ",x)", "P(x,x,x,f" + list + ")", "f" + list + "=x", "x=f" + list, "!@x(P>P" + list + ")"} {
			obeys(t, "F", whole, []string{""})
			if complete, _ := judged("F", whole); complete != (args <= 4) {
				t.Errorf("%s: %v", whole, complete)
			}
		}
		for _, whole := range []string{"f" + list, "f(f" + list + ")", "f(x,f" + list + ",x,x)"} {
			obeys(t, "T", whole, []string{""})
		}
	}
}
