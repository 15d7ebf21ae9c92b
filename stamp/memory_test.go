package stamp

import (
	"bytes"
	"slices"
	"testing"

	"organon/api"
	"organon/samples"
)

// R4: told lists are not changed, nor what is behind them.
func TestToldUntouched(t *testing.T) {
	texts := []string{"(P0 > P1)", "@x0 P0(x0, f1(x1))", "x0 = f2"}
	told := list(silent("a"))
	for _, s := range texts {
		told = append(told, given("b", samples.Roomy(must(t, s))))
	}
	told = append(told, silent("behind"))
	listed := told[:4]
	for range 2 {
		is(t, listed, api.OK)
		same(t, listed, listed, true)
		same(t, listed, told, false)
		gives(t, "text", listed, byWords("text", listed)...)
	}
	if told[0].Name != "a" || told[4].Name != "behind" {
		t.Errorf("%v", told)
	}
	for i, s := range texts {
		if told[i+1].Name != "b" || !told[i+1].Is || !samples.Untouched(told[i+1].Says, s) {
			t.Errorf("%s is changed", s)
		}
	}
}

// R4, R6: results of Bytes are new memory, and nothing of a call shows in later ones.
func TestBytesAnew(t *testing.T) {
	told := list(tells(t, "b", "P0"), silent("c"))
	first, _ := Bytes("ab", told)
	second, _ := Bytes("ab", told)
	clear(first[:cap(first)])
	if !bytes.Equal(second, byWords("ab", told)) {
		t.Errorf("%v", second)
	}
	gives(t, "ab", told, second...)
	told[0].Says.Id = 1
	gives(t, "ab", told, byWords("ab", told)...)
}

// R4: Put and Find do not change their argument, nor what is behind it.
func TestRowUntouched(t *testing.T) {
	made := table(t, 1, 2)
	for _, whole := range []string{"organon!", "ORGANON!", "another!"} {
		b := []byte(whole)
		for range 2 {
			made.Find(b[:7])
			made.Put(b[:7])
		}
		if string(b) != whole {
			t.Errorf("%q became %q", whole, b)
		}
	}
	holds(t, made, "organon", "ORGANON")
}

// P11.4, R4: what becomes of a byte string after Put has no effect.
func TestRowNotKept(t *testing.T) {
	made := table(t, 64, 3)
	b := []byte("abc")
	for n, last := range []byte("xyz") {
		b[2] = last
		if got, fault := made.Put(b); got != n || fault != api.OK {
			t.Errorf("Put(%s) = %d, %d", b, got, fault)
		}
	}
	b[0] = '-'
	holds(t, made, "abx", "aby", "abz")
	finds(t, made, "abx", 0)
	finds(t, made, "-bz", -1)
}

// R4: results of Get are new memory.
func TestGetAnew(t *testing.T) {
	made := table(t, 0, 3)
	puts(t, made, "abc", 0, api.OK)
	puts(t, made, "abd", 1, api.OK)
	first, _ := made.Get(0)
	again, _ := made.Get(0)
	second, _ := made.Get(1)
	clear(first[:cap(first)])
	if string(again) != "abc" || string(second) != "abd" {
		t.Errorf("%q, %q", again, second)
	}
	holds(t, made, "abc", "abd")
	finds(t, made, "abc", 0)
	finds(t, made, "\x00\x00\x00", -1)
	_ = append(again, "and more"...)
	holds(t, made, "abc", "abd")
}

// R6: the same calls have the same results in every table.
func TestSameAgain(t *testing.T) {
	for _, bits := range []int{0, 2, 64} {
		a, b := table(t, bits, 300), table(t, bits, 300)
		calls(t, a)
		calls(t, b)
		for n := range 300 {
			first, _ := a.Get(n)
			second, _ := b.Get(n)
			if !slices.Equal(first, second) {
				t.Fatalf("Get(%d): %q, %q", n, first, second)
			}
		}
		compared, same := a.Looks()
		looks(t, b, compared, same, a.Crowd())
	}
}
