package stamp

import (
	"encoding/binary"
	"math/rand"
	"slices"
	"strconv"
	"strings"
	"testing"

	"organon/api"
	"organon/samples"
)

// The samples under short names.
var (
	must = samples.Must
	node = samples.Node
)

// tells returns an element that provides the formula with the given text.
func tells(t samples.Failer, name, says string) api.Told {
	t.Helper()
	return given(name, must(t, says))
}

// given returns an element that provides e.
func given(name string, e api.Expr) api.Told {
	return api.Told{Name: name, Is: true, Says: e}
}

// silent returns an element that provides nothing.
func silent(name string) api.Told {
	return api.Told{Name: name}
}

// list returns a told list.
func list(told ...api.Told) []api.Told {
	return told
}

// many returns a told list of so many elements, with the names of their indices.
func many(count int) []api.Told {
	var told []api.Told
	for i := range count {
		told = append(told, silent(strconv.Itoa(i)))
	}
	return told
}

// equal reports whether two told lists are equal, going over all nodes of what they say.
func equal(a, b []api.Told) bool {
	return slices.EqualFunc(a, b, func(x, y api.Told) bool {
		return x.Name == y.Name && x.Is == y.Is && equalExpr(x.Says, y.Says)
	})
}

func equalExpr(a, b api.Expr) bool {
	return a.Kind == b.Kind && a.Id == b.Id && slices.EqualFunc(a.Kids, b.Kids, equalExpr)
}

// byWords returns what the chapter says of Bytes.
func byWords(text string, told []api.Told) []byte {
	b := binary.AppendUvarint(nil, uint64(len(text)))
	b = append(b, text...)
	b = binary.AppendUvarint(b, uint64(len(told)))
	for _, element := range told {
		b = binary.AppendUvarint(b, uint64(len(element.Name)))
		b = append(b, element.Name...)
		if !element.Is {
			b = append(b, 0)
			continue
		}
		code := heads(element.Says)
		b = binary.AppendUvarint(append(b, 1), uint64(len(code)))
		b = append(b, code...)
	}
	return b
}

// heads returns the heads of the nodes of e as varints, each node before its Kids.
func heads(e api.Expr) []byte {
	b := binary.AppendUvarint(nil, uint64(e.Kind)<<24+uint64(e.Id)<<8+uint64(len(e.Kids)))
	for _, kid := range e.Kids {
		b = append(b, heads(kid)...)
	}
	return b
}

// anyText returns an arbitrary text, which may look like the serialization of something.
func anyText(r *rand.Rand) string {
	var b strings.Builder
	for range r.Intn(6) {
		b.WriteByte([]byte{0, 1, 2, 'a', 'b', 0x80, 0xFF}[r.Intn(7)])
	}
	return b.String()
}

// anyTold returns an arbitrary told list.
func anyTold(r *rand.Rand) []api.Told {
	var told []api.Told
	for range r.Intn(4) {
		if r.Intn(2) == 0 {
			told = append(told, silent(anyText(r)))
		} else {
			told = append(told, given(anyText(r), samples.AnyFormula(r, 1+r.Intn(4))))
		}
	}
	return told
}

// table returns an empty table.
func table(t *testing.T, bits, room int) *Table {
	t.Helper()
	made, fault := New(bits, room)
	if fault != api.OK {
		t.Fatalf("New(%d, %d): %d", bits, room, fault)
	}
	return made
}

// puts fails unless Put of the row returns the number and the error.
func puts(t *testing.T, table *Table, row string, n int, fault api.Errno) {
	t.Helper()
	if got, f := table.Put([]byte(row)); got != n || f != fault {
		t.Errorf("Put(%q) = %d, %d; want %d, %d", row, got, f, n, fault)
	}
}

// finds fails unless Find of the row returns the number; -1: it is not stored.
func finds(t *testing.T, table *Table, row string, n int) {
	t.Helper()
	if got, stored := table.Find([]byte(row)); got != max(n, 0) || stored != (n >= 0) {
		t.Errorf("Find(%q) = %d, %v; want %d", row, got, stored, n)
	}
}

// holds fails unless the table has the rows, and nothing else.
func holds(t *testing.T, table *Table, rows ...string) {
	t.Helper()
	if table.Len() != len(rows) {
		t.Errorf("Len is %d; want %d", table.Len(), len(rows))
	}
	for n, row := range rows {
		if b, there := table.Get(n); string(b) != row || !there {
			t.Errorf("Get(%d) = %q, %v; want %q", n, b, there, row)
		}
	}
	for _, n := range []int{-1, len(rows), len(rows) + 1} {
		if b, there := table.Get(n); len(b) > 0 || there {
			t.Errorf("Get(%d) = %q, %v; there is none", n, b, there)
		}
	}
}

// looks fails unless Looks returns these numbers, and Crowd the third one.
func looks(t *testing.T, table *Table, compared, same, crowd int) {
	t.Helper()
	if c, s := table.Looks(); c != compared || s != same || table.Crowd() != crowd {
		t.Errorf("Looks: %d, %d; Crowd: %d; want %d, %d, %d", c, s, table.Crowd(), compared, same, crowd)
	}
}
