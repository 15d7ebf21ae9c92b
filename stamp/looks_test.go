package stamp

import (
	"math/rand"
	"strconv"
	"testing"

	"organon/api"
	"organon/word"
)

// wordly is a table that follows the chapter word by word: it goes over all of its rows.
type wordly struct {
	bits, room     int
	rows           []string
	compared, same int
}

func (w *wordly) stamp(row string) uint64 {
	stamp, _ := word.Cut(word.Digest([]byte(row)), w.bits)
	return stamp
}

func (w *wordly) find(row string) (int, bool) {
	for n, other := range w.rows {
		if w.stamp(other) != w.stamp(row) {
			continue
		}
		w.compared++
		if other == row {
			w.same++
			return n, true
		}
	}
	return 0, false
}

func (w *wordly) put(row string) (int, api.Errno) {
	if n, stored := w.find(row); stored {
		return n, api.OK
	}
	if len(w.rows) == w.room {
		return 0, api.ErrFull
	}
	w.rows = append(w.rows, row)
	return len(w.rows) - 1, api.OK
}

func (w *wordly) crowd() int {
	most := 0
	for _, row := range w.rows {
		count := 0
		for _, other := range w.rows {
			if w.stamp(other) == w.stamp(row) {
				count++
			}
		}
		most = max(most, count)
	}
	return most
}

// P11.4, P11.5: arbitrary calls on tables of each number of bits, against the words of the chapter.
func TestTableByWords(t *testing.T) {
	r := rand.New(rand.NewSource(4))
	for bits := 0; bits <= api.MaxBits; bits++ {
		room := 1 + r.Intn(40)
		made, words := table(t, bits, room), &wordly{bits: bits, room: room}
		for range 150 {
			row := strconv.Itoa(r.Intn(50))
			if r.Intn(2) == 0 {
				n, fault := words.put(row)
				puts(t, made, row, n, fault)
			} else if n, stored := words.find(row); stored {
				finds(t, made, row, n)
			} else {
				finds(t, made, row, -1)
			}
			looks(t, made, words.compared, words.same, words.crowd())
		}
		holds(t, made, words.rows...)
	}
}

// P11.5: with 0 bits each byte string is compared with all others, up to the one that is equal.
func TestLooksOfAll(t *testing.T) {
	made := table(t, 0, 5)
	for n, row := range []string{"a", "b", "c", "d", "e"} {
		puts(t, made, row, n, api.OK)
	}
	looks(t, made, 0+1+2+3+4, 0, 5)
	finds(t, made, "e", 4)
	looks(t, made, 15, 1, 5)
	finds(t, made, "a", 0)
	looks(t, made, 16, 2, 5)
	puts(t, made, "c", 2, api.OK)
	looks(t, made, 19, 3, 5)
	puts(t, made, "f", 0, api.ErrFull)
	finds(t, made, "", -1)
	looks(t, made, 29, 3, 5)
}

// P11.5: with all bits, byte strings are compared with themselves alone; other calls compare nothing.
func TestLooksOfNone(t *testing.T) {
	made := table(t, 64, 5)
	for n, row := range []string{"a", "b", "c", "d", "e"} {
		puts(t, made, row, n, api.OK)
		finds(t, made, row+row, -1)
	}
	looks(t, made, 0, 0, 1)
	for range 3 {
		holds(t, made, "a", "b", "c", "d", "e")
		looks(t, made, 0, 0, 1)
	}
	finds(t, made, "e", 4)
	puts(t, made, "b", 1, api.OK)
	puts(t, made, "f", 0, api.ErrFull)
	looks(t, made, 2, 2, 1)
}

// P11.4, P11.5: one bit, which is the highest one of the digest; those of x, y and z are 0, 1 and 1.
func TestLooksOfOneBit(t *testing.T) {
	made := table(t, 1, 5)
	puts(t, made, "x", 0, api.OK)
	puts(t, made, "y", 1, api.OK)
	looks(t, made, 0, 0, 1)
	puts(t, made, "z", 2, api.OK)
	looks(t, made, 1, 0, 2)
	finds(t, made, "x", 0)
	looks(t, made, 2, 1, 2)
	finds(t, made, "z", 2)
	looks(t, made, 4, 2, 2)
	// That of the empty byte string is 1.
	finds(t, made, "", -1)
	looks(t, made, 6, 2, 2)
}
