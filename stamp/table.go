package stamp

import (
	"organon/api"
	"organon/word"
)

// Table holds byte strings, each once, under the numbers from 0 on. New makes one.
type Table struct {
	bits, room  int
	rows        []string         // that of number n is at n
	numbers     map[uint64][]int // those of a stamp, in increasing order
	looks, hits int
}

// New returns an empty table for room byte strings, whose stamps have the given number of bits.
// ErrArg: bits is not from 0 to MaxBits, or room not from 1 to MaxTable.
func New(bits, room int) (*Table, api.Errno) {
	if bits < 0 || bits > api.MaxBits || room < 1 || room > api.MaxTable {
		return nil, api.ErrArg
	}
	return &Table{bits: bits, room: room, numbers: map[uint64][]int{}}, api.OK
}

// Put returns the number of b, which becomes one of the stored byte strings unless it is one.
// ErrFull: there is no room for it.
func (t *Table) Put(b []byte) (int, api.Errno) {
	stamp := t.stamp(b)
	if n, stored := t.find(stamp, b); stored {
		return n, api.OK
	}
	if t.Len() == t.room {
		return 0, api.ErrFull
	}
	n := t.Len()
	t.rows = append(t.rows, string(b))
	t.numbers[stamp] = append(t.numbers[stamp], n)
	return n, api.OK
}

// Find returns the number of b; false: b is not stored.
func (t *Table) Find(b []byte) (int, bool) {
	return t.find(t.stamp(b), b)
}

// Get returns the byte string with the number n; false: there is none.
func (t *Table) Get(n int) ([]byte, bool) {
	if n < 0 || n >= t.Len() {
		return nil, false
	}
	return []byte(t.rows[n]), true
}

// Len returns how many byte strings are stored.
func (t *Table) Len() int {
	return len(t.rows)
}

// Crowd returns how many of the stored byte strings have the stamp that most of them have.
func (t *Table) Crowd() int {
	most := 0
	for _, numbers := range t.numbers {
		most = max(most, len(numbers))
	}
	return most
}

// Looks returns how often Put and Find have compared two byte strings, and how often these were equal.
func (t *Table) Looks() (int, int) {
	return t.looks, t.hits
}

// stamp returns the stamp of b.
func (t *Table) stamp(b []byte) uint64 {
	// The number of bits is within the bounds of Cut.
	stamp, _ := word.Cut(word.Digest(b), t.bits)
	return stamp
}

// find is Find for a byte string with the given stamp.
func (t *Table) find(stamp uint64, b []byte) (int, bool) {
	for _, n := range t.numbers[stamp] {
		t.looks++
		if t.rows[n] == string(b) {
			t.hits++
			return n, true
		}
	}
	return 0, false
}
