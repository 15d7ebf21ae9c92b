package parse

import (
	"strings"

	"organon/api"
)

// signs are the tokens of one byte.
const signs = "(),=!>&|@?"

// cut returns the tokens of s, and raises a fault at the first place where there is none.
func cut(s string) []api.Token {
	if len(s) > api.MaxText {
		panic(fault{api.ErrLong, 0})
	}
	var list []api.Token
	end := 0 // of the token before
	for at, r := range s {
		if at < end || isBlank(r) {
			continue
		}
		kind, n, size := tokenAt(s, at, r)
		list = append(list, api.Token{Kind: kind, N: n, At: at})
		end = at + size
	}
	return list
}

func isBlank(r rune) bool {
	return r == ' ' || r == '\t'
}

// tokenAt returns the token of s that begins with the rune r at a place, and how many bytes it has.
func tokenAt(s string, at int, r rune) (kind, n, size int) {
	if strings.ContainsRune(signs, r) {
		return api.TokSign, int(r), 1
	}
	kind, most := letter(r)
	if kind == 0 {
		panic(fault{api.ErrByte, at})
	}
	n, digits := number(s[at+1:], most)
	if digits == 0 {
		panic(fault{api.ErrNumber, at})
	}
	return kind, n, 1 + digits
}

// letter returns the kind of the tokens that begin with r, and their greatest number; no kind if there are none.
func letter(r rune) (kind, most int) {
	switch r {
	case 'x':
		return api.TokVar, api.MaxVar
	case 'f':
		return api.TokFunc, api.MaxId
	case 'P':
		return api.TokPred, api.MaxId
	}
	return 0, 0
}

// number returns the number at the beginning of s, and how many digits it has: none if it may not be.
func number(s string, most int) (n, digits int) {
	for _, r := range s {
		if r < '0' || r > '9' {
			break
		}
		// A number that is too great already grows no further, lest it wrap round.
		if n <= most {
			n = 10*n + int(r-'0')
		}
		digits++
	}
	if n > most || digits > 1 && s[0] == '0' {
		return 0, 0
	}
	return n, digits
}
