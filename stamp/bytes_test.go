package stamp

import (
	"bytes"
	"math/rand"
	"strings"
	"testing"

	"organon/api"
	"organon/samples"
	"organon/word"
)

// gives fails unless Bytes returns these bytes, and Local their digest.
func gives(t *testing.T, text string, told []api.Told, want ...byte) {
	t.Helper()
	b, fault := Bytes(text, told)
	if !bytes.Equal(b, want) || fault != api.OK {
		t.Errorf("Bytes(%.50q): %v, %d; want %v", text, b[:min(len(b), 50)], fault, want[:min(len(want), 50)])
	}
	if n, fault := Local(text, told); n != word.Digest(want) || fault != api.OK {
		t.Errorf("Local(%.50q): %#x, %d; want %#x", text, n, fault, word.Digest(want))
	}
}

// P11.3: the examples, and others that were written by hand.
func TestBytes(t *testing.T) {
	gives(t, "", nil, 0, 0)
	gives(t, "", []api.Told{}, 0, 0)
	gives(t, "ab", nil, 2, 'a', 'b', 0)
	gives(t, "", list(silent("b")), 0, 1, 1, 'b', 0)
	gives(t, "", list(silent("")), 0, 1, 0, 0)
	gives(t, "\x00\xFF", list(silent(""), silent("\x80")), 2, 0, 0xFF, 2, 0, 0, 1, 0x80, 0)
	gives(t, "ab", list(silent("b"), tells(t, "c", "P0")), 2, 'a', 'b', 2, 1, 'b', 0, 1, 'c', 1, 4, 128, 128, 128, 24)
	gives(t, "", list(tells(t, "bc", "!P0(x1)"), silent("bc")),
		0, 2, 2, 'b', 'c', 1, 12, 129, 128, 128, 40, 129, 128, 128, 24, 128, 130, 128, 8, 2, 'b', 'c', 0)
}

// P11.3: values that were computed apart from this program.
func TestLocal(t *testing.T) {
	for _, c := range []struct {
		text string
		told []api.Told
		want uint64
	}{
		{"", nil, 0x3F7DD7FA3B2610A1},
		{"ab", nil, 0x872BA93404E7D9B7},
		{"", list(silent("b")), 0x2EB73779D8A7F986},
		{"ab", list(silent("b"), tells(t, "c", "P0")), 0x27911B3ED18F0BEB},
	} {
		if n, fault := Local(c.text, c.told); n != c.want || fault != api.OK {
			t.Errorf("Local(%q): %#x, %d; want %#x", c.text, n, fault, c.want)
		}
	}
}

// P11.3: lengths of more than one byte, up to the limits; a name may be longer than a text.
func TestBytesLong(t *testing.T) {
	name := strings.Repeat("n", 50000)
	told := append(many(api.MaxTold-2), given(name, samples.Sized(api.MaxNodes)), silent(name))
	for _, size := range []int{127, 128, 16383, 16384, api.MaxUnit} {
		text := strings.Repeat("\xFF", size)
		gives(t, text, nil, byWords(text, nil)...)
		gives(t, text, told, byWords(text, told)...)
	}
}

// P11.3, R2, R3: a text that is too long comes ahead of all else.
func TestBytesTooLong(t *testing.T) {
	for _, size := range []int{api.MaxUnit + 1, 1 << 20} {
		for _, told := range [][]api.Told{nil, list(silent("a")), list(given("a", samples.Variable(0))), list(api.Told{Says: node(0, 1)}), many(65)} {
			text := strings.Repeat(" ", size)
			if b, fault := Bytes(text, told); len(b) > 0 || fault != api.ErrLong {
				t.Errorf("Bytes: %v, %d", b, fault)
			}
			if n, fault := Local(text, told); n != 0 || fault != api.ErrLong {
				t.Errorf("Local: %d, %d", n, fault)
			}
		}
	}
}

// P11.3: texts and told lists of any kind, against the words of the chapter.
func TestBytesByWords(t *testing.T) {
	r := rand.New(rand.NewSource(3))
	for range 1000 {
		text, told := anyText(r), anyTold(r)
		gives(t, text, told, byWords(text, told)...)
	}
}
