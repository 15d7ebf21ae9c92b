package stamp

import (
	"math"
	"strconv"
	"strings"
	"testing"

	"organon/api"
)

// P11.4, R2: numbers that can't be.
func TestNewOutside(t *testing.T) {
	far := []int{-1, math.MinInt, math.MaxInt, 1 << 32, 1<<32 + 1, math.MinInt + 1}
	var wrong [][2]int
	for _, n := range far {
		wrong = append(wrong, [2]int{n, 1}, [2]int{0, n}, [2]int{n, n}, [2]int{64, n}, [2]int{n, 20000})
	}
	for _, c := range append(wrong, [2]int{65, 1}, [2]int{128, 1}, [2]int{1, 0}, [2]int{0, 0}, [2]int{1, 20001}, [2]int{65, 0}) {
		if made, fault := New(c[0], c[1]); made != nil || fault != api.ErrArg {
			t.Errorf("New(%d, %d): %v, %d", c[0], c[1], made, fault)
		}
	}
}

// P11.4: an empty table, at the ends of what may be.
func TestNewEmpty(t *testing.T) {
	for _, c := range [][2]int{{0, 1}, {64, 1}, {0, 20000}, {64, 20000}, {1, 1}, {63, 19999}} {
		made := table(t, c[0], c[1])
		holds(t, made)
		finds(t, made, "", -1)
		finds(t, made, "x", -1)
		looks(t, made, 0, 0, 0)
		puts(t, made, "x", 0, api.OK)
		holds(t, made, "x")
	}
}

// P11.4, P11.5: the example, call by call.
func TestTableExample(t *testing.T) {
	made := table(t, 0, 2)
	puts(t, made, "x", 0, api.OK)
	looks(t, made, 0, 0, 1)
	puts(t, made, "y", 1, api.OK)
	looks(t, made, 1, 0, 2)
	puts(t, made, "x", 0, api.OK)
	looks(t, made, 2, 1, 2)
	puts(t, made, "z", 0, api.ErrFull)
	looks(t, made, 4, 1, 2)
	finds(t, made, "z", -1)
	looks(t, made, 6, 1, 2)
	holds(t, made, "x", "y")
}

// P11.4: a full table takes nothing more, but has what is stored.
func TestFull(t *testing.T) {
	for _, bits := range []int{0, 1, 64} {
		made := table(t, bits, 3)
		puts(t, made, "a", 0, api.OK)
		puts(t, made, "b", 1, api.OK)
		puts(t, made, "b", 1, api.OK)
		puts(t, made, "c", 2, api.OK)
		for range 2 {
			puts(t, made, "d", 0, api.ErrFull)
			puts(t, made, "", 0, api.ErrFull)
			puts(t, made, "c", 2, api.OK)
			puts(t, made, "a", 0, api.OK)
			finds(t, made, "b", 1)
			finds(t, made, "d", -1)
			holds(t, made, "a", "b", "c")
		}
	}
}

// P11.4: a table takes as many byte strings as may be, and not one more.
func TestFilled(t *testing.T) {
	for _, bits := range []int{10, 64} {
		made := table(t, bits, api.MaxTable)
		for n := range api.MaxTable {
			if got, fault := made.Put([]byte(strconv.Itoa(n))); got != n || fault != api.OK || made.Len() != n+1 {
				t.Fatalf("Put(%d) = %d, %d, with %d", n, got, fault, made.Len())
			}
		}
		puts(t, made, "x", 0, api.ErrFull)
		for n := range api.MaxTable {
			b, there := made.Get(n)
			if got, stored := made.Find([]byte(strconv.Itoa(n))); got != n || !stored || string(b) != strconv.Itoa(n) || !there {
				t.Fatalf("Find(%d) = %d, %v; Get is %q, %v", n, got, stored, b, there)
			}
		}
		finds(t, made, "20000", -1)
		if made.Len() != api.MaxTable {
			t.Errorf("Len is %d", made.Len())
		}
	}
}

// P11.4: byte strings that are parts of each other, the empty one, and long ones.
func TestRows(t *testing.T) {
	long := strings.Repeat("a", 1<<20)
	rows := []string{"a", "", "aa", "\x00", "a\x00", "\x00a", "\xFF", "\xFF\xFF", "ab", "ba", long, long + "b", long + "a"}
	for bits := 0; bits <= api.MaxBits; bits += 8 {
		made := table(t, bits, len(rows))
		for n, row := range rows {
			finds(t, made, row, -1)
			puts(t, made, row, n, api.OK)
			finds(t, made, row, n)
		}
		holds(t, made, rows...)
		for n, row := range rows {
			puts(t, made, row, n, api.OK)
			finds(t, made, row, n)
		}
		holds(t, made, rows...)
	}
}

// P11.4, R5: nil is the empty byte string.
func TestNilRow(t *testing.T) {
	made := table(t, 64, 2)
	if n, stored := made.Find(nil); n != 0 || stored {
		t.Errorf("Find: %d, %v", n, stored)
	}
	if n, fault := made.Put(nil); n != 0 || fault != api.OK {
		t.Errorf("Put: %d, %d", n, fault)
	}
	puts(t, made, "", 0, api.OK)
	if n, stored := made.Find(nil); n != 0 || !stored {
		t.Errorf("Find: %d, %v", n, stored)
	}
	holds(t, made, "")
}

// P11.4, R11: numbers that no byte string has.
func TestGetNone(t *testing.T) {
	made := table(t, 0, 10)
	puts(t, made, "x", 0, api.OK)
	puts(t, made, "y", 1, api.OK)
	for _, n := range []int{2, 3, 9, 10, -1, -2, math.MinInt, math.MaxInt, 1 << 32, 1<<32 + 1, math.MinInt + 1} {
		if b, there := made.Get(n); len(b) > 0 || there {
			t.Errorf("Get(%d) = %q, %v", n, b, there)
		}
	}
}

// P11.4, R6: what is put into one table is not in another one.
func TestTablesApart(t *testing.T) {
	a, b := table(t, 0, 2), table(t, 0, 2)
	puts(t, a, "x", 0, api.OK)
	holds(t, b)
	puts(t, b, "y", 0, api.OK)
	finds(t, a, "y", -1)
	finds(t, b, "x", -1)
	looks(t, a, 1, 0, 1)
	looks(t, b, 1, 0, 1)
}
