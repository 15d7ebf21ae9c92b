package parse

import (
	"math/rand"
	"regexp"
	"slices"
	"strconv"
	"strings"
	"testing"

	"organon/api"
)

// cuts fails unless Tokens(s) is want, or returns the error and the place.
func cuts(t *testing.T, s string, want []api.Token, code api.Errno, at int) {
	t.Helper()
	list, gotCode, gotAt := Tokens(s)
	if !slices.Equal(list, want) || gotCode != code || gotAt != at {
		t.Errorf("Tokens(%q) = %d tokens, %d, %d; want %d tokens, %d, %d", short(s), len(list), gotCode, gotAt, len(want), code, at)
	}
}

func sign(b byte, at int) api.Token { return api.Token{Kind: api.TokSign, N: int(b), At: at} }

var letters = []struct {
	letter     string
	kind, most int
}{{"x", api.TokVar, 63}, {"f", api.TokFunc, 99}, {"P", api.TokPred, 99}}

var (
	blank  = regexp.MustCompile(`^[ \t]`)
	signed = regexp.MustCompile(`^[(),=!>&|@?]`)
	named  = regexp.MustCompile(`^[xfP]`)
	whole  = regexp.MustCompile(`^(?:x(?:[0-9]|[1-5][0-9]|6[0-3])|[fP](?:[0-9]|[1-9][0-9]))(?:[^0-9]|$)`)
)

// cutByWords is Tokens by the words of P3.1.
func cutByWords(s string) ([]api.Token, api.Errno, int) {
	var list []api.Token
	for at := 0; at < len(s); {
		rest := s[at:]
		switch {
		case blank.MatchString(rest):
			at++
		case signed.MatchString(rest):
			list = append(list, sign(s[at], at))
			at++
		case whole.MatchString(rest):
			end := 1
			for end < len(rest) && strings.Contains("0123456789", rest[end:end+1]) {
				end++
			}
			n, _ := strconv.Atoi(rest[1:end])
			list = append(list, api.Token{Kind: 1 + strings.Index("xfP", rest[:1]), N: n, At: at})
			at += end
		case named.MatchString(rest):
			return nil, api.ErrNumber, at
		default:
			return nil, api.ErrByte, at
		}
	}
	return list, api.OK, 0
}

// P3.1: the rows of the examples.
func TestTokensExamples(t *testing.T) {
	cuts(t, "x1=f0", []api.Token{{Kind: 1, N: 1, At: 0}, {Kind: 4, N: '=', At: 2}, {Kind: 2, N: 0, At: 3}}, api.OK, 0)
	for _, s := range []string{"x", "x01", "P100", "x64"} {
		cuts(t, s, nil, api.ErrNumber, 0)
	}
	cuts(t, "x1 #", nil, api.ErrByte, 3)
}

// P3.1: each letter with each number, at its limit and beyond it, and other forms of the number (R7).
func TestTokensNumbers(t *testing.T) {
	for _, l := range letters {
		for n := range 1200 {
			text := l.letter + strconv.Itoa(n)
			if n <= l.most {
				cuts(t, text, []api.Token{{Kind: l.kind, N: n}}, api.OK, 0)
			} else {
				cuts(t, text, nil, api.ErrNumber, 0)
			}
			cuts(t, l.letter+"0"+strconv.Itoa(n), nil, api.ErrNumber, 0)
		}
		for _, wrong := range []string{
			"", " 1", "\t1", "-1", "+1", "a", "x1", "=", "(", ".5", "00", "000", "00000000000000000000", "0000000000000000000001",
			// These are small numbers once they wrap round.
			"256", "257", "65536", "65537", "4294967296", "4294967297", "18446744073709551616", "18446744073709551617", "184467440737095516161",
			"340282366920938463463374607431768211456", strings.Repeat("9", 7990), "1" + strings.Repeat("0", 7990),
			// Digits, but not those of R7.
			"\u0663", "\uff11", "\u00b2", "\xb1", "\x00", "\xff",
		} {
			cuts(t, l.letter+wrong, nil, api.ErrNumber, 0)
			cuts(t, " ("+l.letter+wrong, nil, api.ErrNumber, 2)
		}
	}
}

// P3.1: each byte alone, after a token, within one, and before one.
func TestTokensEachByte(t *testing.T) {
	for b := range 256 {
		s := string([]byte{byte(b)})
		for _, text := range []string{s, "x1" + s, "x" + s, "x" + s + "1", "f1" + s + "1", "P" + s, s + "P9", "(" + s + ")", " " + s + " ", s + s, "\t" + s} {
			list, code, at := cutByWords(text)
			cuts(t, text, list, code, at)
		}
		// Written out once more for the byte alone.
		switch {
		case b == 9 || b == 32:
			cuts(t, s, nil, api.OK, 0)
		case strings.Contains("(),=!>&|@?", s):
			cuts(t, s, []api.Token{sign(byte(b), 0)}, api.OK, 0)
		case s == "x" || s == "f" || s == "P":
			cuts(t, s, nil, api.ErrNumber, 0)
		default:
			cuts(t, s, nil, api.ErrByte, 0)
		}
	}
}

// P3.1: the offset is that of a byte, also behind and at runes of several bytes, and at bytes that are no rune.
func TestTokensRunes(t *testing.T) {
	for _, c := range []struct {
		s    string
		code api.Errno
		at   int
	}{
		{"é", api.ErrByte, 0},
		{"x1é", api.ErrByte, 2},
		{"x1 \u00a0x2", api.ErrByte, 3},
		{"\u2003", api.ErrByte, 0},
		{"\u2200x0 P0", api.ErrByte, 0},
		{"x1 = \U0001d7d8", api.ErrByte, 5},
		{"\uff58\uff11", api.ErrByte, 0},
		{"x1 = f\uff11", api.ErrNumber, 5},
		{"x1\u0663", api.ErrByte, 2},
		{"\ufffd", api.ErrByte, 0},
		{"x1 \xc3", api.ErrByte, 3},
		{"x1 \xa9\xc3", api.ErrByte, 3},
		{"P0(\xf0\x9d", api.ErrByte, 3},
		// These hold the byte of a sign, or of a digit, in more bytes than it needs.
		{"\xc0\xa8", api.ErrByte, 0},
		{"x\xc0\xb1", api.ErrNumber, 0},
		{"\u0128", api.ErrByte, 0},
		{"\u0178", api.ErrByte, 0},
	} {
		cuts(t, c.s, nil, c.code, c.at)
	}
}

// P3.1: the leftmost position counts.
func TestTokensLeftmost(t *testing.T) {
	for _, c := range []struct {
		s    string
		code api.Errno
		at   int
	}{
		{"# x", api.ErrByte, 0},
		{"x #", api.ErrNumber, 0},
		{"x1 x64 #", api.ErrNumber, 3},
		{"x1 # x64", api.ErrByte, 3},
		{"  f1f", api.ErrNumber, 4},
		{"xf1", api.ErrNumber, 0},
		{"x1 1", api.ErrByte, 3},
		{"x1\n", api.ErrByte, 2},
		{"\r", api.ErrByte, 0},
		{"x1\v\f", api.ErrByte, 2},
		{"X1", api.ErrByte, 0},
		{"p1", api.ErrByte, 0},
		{"F1", api.ErrByte, 0},
		{"x1 : x", api.ErrByte, 3},
		{"0", api.ErrByte, 0},
	} {
		cuts(t, c.s, nil, c.code, c.at)
	}
}

// P3.1: blanks before, between and after tokens, or none of them.
func TestTokensBlanks(t *testing.T) {
	cuts(t, "", nil, api.OK, 0)
	cuts(t, " \t \t", nil, api.OK, 0)
	cuts(t, "x1x2", []api.Token{{Kind: 1, N: 1, At: 0}, {Kind: 1, N: 2, At: 2}}, api.OK, 0)
	cuts(t, "\t x63 \t\tf99 P0 ", []api.Token{{Kind: 1, N: 63, At: 2}, {Kind: 2, N: 99, At: 8}, {Kind: 3, N: 0, At: 12}}, api.OK, 0)
	var want []api.Token
	for i, b := range []byte("(),=!>&|@?") {
		want = append(want, sign(b, i))
	}
	cuts(t, "(),=!>&|@?", want, api.OK, 0)
}

// P3.1: 8000 bytes, and one more, whatever they are.
func TestTokensLength(t *testing.T) {
	var want []api.Token
	for i := range 8000 {
		want = append(want, sign('!', i))
	}
	for _, c := range []struct {
		s    string
		list []api.Token
		code api.Errno
		at   int
	}{
		{strings.Repeat(" ", 8000), nil, api.OK, 0},
		{strings.Repeat(" ", 8001), nil, api.ErrLong, 0},
		{strings.Repeat("!", 8000), want, api.OK, 0},
		{strings.Repeat("!", 8001), nil, api.ErrLong, 0},
		{strings.Repeat(" ", 7999) + "#", nil, api.ErrByte, 7999},
		{strings.Repeat(" ", 7999) + "x", nil, api.ErrNumber, 7999},
		{strings.Repeat(" ", 8000) + "#", nil, api.ErrLong, 0},
		{"#" + strings.Repeat(" ", 8000), nil, api.ErrLong, 0},
		{"x" + strings.Repeat("1", 8000), nil, api.ErrLong, 0},
		{strings.Repeat(" ", 7998) + "x1", []api.Token{{Kind: 1, N: 1, At: 7998}}, api.OK, 0},
		// The length is that in bytes.
		{strings.Repeat("é", 4000), nil, api.ErrByte, 0},
		{strings.Repeat("é", 4001), nil, api.ErrLong, 0},
		{strings.Repeat("x", 1<<24), nil, api.ErrLong, 0},
	} {
		cuts(t, c.s, c.list, c.code, c.at)
	}
}

// P3.1, R1, R2: texts of all sorts.
func TestTokensRandom(t *testing.T) {
	r := rand.New(rand.NewSource(2))
	pieces := []string{"x", "f", "P", "0", "1", "6", "3", "4", "9", " ", "\t", "(", ")", ",", "=", "!", ">", "&", "|", "@", "?", "x1", "f22", "P7", "x63", "x64", "P99", "#", "é", "\xff"}
	accepted := 0
	for range 100000 {
		var s strings.Builder
		for range r.Intn(8) {
			s.WriteString(pieces[r.Intn(len(pieces)-r.Intn(4))])
		}
		list, code, at := cutByWords(s.String())
		cuts(t, s.String(), list, code, at)
		if code == api.OK {
			accepted++
		}
	}
	if accepted < 10000 {
		t.Errorf("only %d accepted", accepted)
	}
}

// R4: two results are two memories.
func TestTokensAnew(t *testing.T) {
	a, _, _ := Tokens(thirdText)
	b, _, _ := Tokens(thirdText)
	kept := slices.Clone(b)
	a = a[:cap(a)]
	for i := range a {
		a[i] = api.Token{Kind: 9, N: 9, At: 9}
	}
	if !slices.Equal(b, kept) {
		t.Error("memory is shared")
	}
}
