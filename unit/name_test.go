package unit

import (
	"math/rand"
	"regexp"
	"strings"
	"testing"

	"organon/api"
)

// P9.1: the row of the examples.
func TestNameExamples(t *testing.T) {
	for s, want := range map[string]bool{
		"self": true, "a-1": true, "1a": false, "A": false, "abcdefghijklm": false, "": false,
	} {
		if Name(s) != want {
			t.Errorf("Name(%q) = %v", s, !want)
		}
	}
}

// P9.1: each byte as the first one, and behind it.
func TestNameBytes(t *testing.T) {
	const letters, others = "abcdefghijklmnopqrstuvwxyz", "0123456789-"
	for b := range 256 {
		s := string([]byte{byte(b)})
		first, behind := strings.Contains(letters, s), strings.Contains(letters+others, s)
		for _, rest := range []string{"", "a", "0", "-", "abcdefghijk"} {
			if Name(s+rest) != first {
				t.Errorf("Name(%q) = %v", s+rest, !first)
			}
		}
		for _, name := range []string{"z" + s, "a" + s + "b", "a-" + s + "9", "a9" + s + "-", "abcdefghijk" + s} {
			if Name(name) != behind {
				t.Errorf("Name(%q) = %v", name, !behind)
			}
		}
	}
}

// P9.1: each length.
func TestNameLengths(t *testing.T) {
	for length := range 40 {
		want := length >= 1 && length <= 12
		for _, tail := range []string{"a", "7", "-"} {
			s := strings.Repeat(tail, length)
			if length > 0 {
				s = "q" + s[1:]
			}
			if Name(s) != want {
				t.Errorf("Name(%q) = %v", s, !want)
			}
		}
	}
	if Name(strings.Repeat("a", 1<<20)) || Name("a"+strings.Repeat(" ", 1<<20)) {
		t.Error("a long text is a name")
	}
	for _, s := range badNames() {
		if Name(s) {
			t.Errorf("%q is a name", s)
		}
	}
}

// P9.1: as the words say it, for arbitrary texts.
func TestNameByWords(t *testing.T) {
	r := rand.New(rand.NewSource(91))
	words := regexp.MustCompile(`^[a-z][a-z0-9-]{0,11}\z`)
	yes := 0
	for range 20000 {
		s := anyName(r)
		if r.Intn(2) == 0 {
			at := r.Intn(len(s) + 1)
			s = s[:at] + string([]byte{byte(r.Intn(256))}) + s[at:]
		}
		want := words.MatchString(s)
		if Name(s) != want {
			t.Errorf("Name(%q) = %v", s, !want)
		}
		if want {
			yes++
		}
	}
	if yes < 5000 || yes > 15000 || api.MaxName != 12 {
		t.Errorf("%d of the samples are names", yes)
	}
}
