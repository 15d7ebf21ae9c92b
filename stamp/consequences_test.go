package stamp

import (
	"bytes"
	"math/rand"
	"strconv"
	"testing"

	"organon/api"
)

// input is what Bytes makes one byte string of.
type input struct {
	text string
	told []api.Told
}

// apart fails unless the byte strings of two valid inputs are equal if and only if the inputs are, and otherwise none is
// the beginning of the other one.
func apart(t *testing.T, a, b input) {
	t.Helper()
	first, fault := Bytes(a.text, a.told)
	second, other := Bytes(b.text, b.told)
	if fault != api.OK || other != api.OK {
		t.Fatalf("Bytes: %d, %d", fault, other)
	}
	same := a.text == b.text && Same(a.told, b.told)
	if bytes.Equal(first, second) != same || !same && (bytes.HasPrefix(first, second) || bytes.HasPrefix(second, first)) {
		t.Errorf("%q, %v and %q, %v: %v and %v", a.text, a.told, b.text, b.told, first, second)
	}
}

// P11.6: inputs whose pieces are the same bytes, put together otherwise.
func TestBytesApart(t *testing.T) {
	var inputs []input
	for _, text := range []string{"", "a", "ab", "abc", "\x00", "\x00\x00", "\x01", "\x01b", "\x01\x01b\x00", "\x02ab", "\x00\x01\x01b"} {
		for _, told := range [][]api.Told{
			nil, list(silent("")), list(silent("b")), list(silent("bc")), list(silent("b"), silent("c")), list(silent("c"), silent("b")),
			list(silent("b\x00"), silent("c")), list(silent("b"), silent("\x00c")), list(silent("b\x00\x01c")), list(silent("b"), silent("")),
			list(tells(t, "b", "P0")), list(tells(t, "b", "P1")), list(tells(t, "b", "!P0")), list(tells(t, "b\x00", "P0")),
			list(silent("b\x01\x04\x80\x80\x80\x18")), list(tells(t, "b", "P0"), silent("c")), list(silent("b"), tells(t, "c", "P0")),
			list(tells(t, "b", "(P0 & P1)")), list(tells(t, "b", "!(P0 > !P1)")), list(tells(t, "b", "P0(x0, x1)")), list(tells(t, "b", "P0(x0)")),
		} {
			inputs = append(inputs, input{text, told})
		}
	}
	for _, a := range inputs {
		for _, b := range inputs {
			apart(t, a, b)
		}
	}
}

// P11.6: arbitrary inputs, and those that differ a little.
func TestBytesApartArbitrary(t *testing.T) {
	r := rand.New(rand.NewSource(5))
	compared := 0
	for range 3000 {
		a := input{anyText(r), anyTold(r)}
		apart(t, a, input{anyText(r), anyTold(r)})
		apart(t, a, input{anyText(r), a.told})
		if b := changed(r, a.told); Right(b) == api.OK {
			apart(t, a, input{a.text, b})
			compared++
		}
	}
	if compared < 1000 {
		t.Errorf("%d were compared", compared)
	}
}

// P11.7: the same calls on tables of each number of bits.
func TestBitsAgree(t *testing.T) {
	const room = 300
	fewest := table(t, 0, room)
	calls(t, fewest)
	crowd := fewest.Crowd()
	compared, same := fewest.Looks()
	for bits := 1; bits <= api.MaxBits; bits++ {
		made := table(t, bits, room)
		calls(t, made)
		for n := range room {
			row, _ := fewest.Get(n)
			if b, there := made.Get(n); !bytes.Equal(b, row) || !there {
				t.Fatalf("Get(%d) = %q, %v; want %q", n, b, there, row)
			}
		}
		c, s := made.Looks()
		if made.Len() != room || made.Crowd() > crowd || c > compared || s != same {
			t.Errorf("%d bits: Len %d, Crowd %d, Looks %d, %d; want at most %d, %d, and %d", bits, made.Len(), made.Crowd(), c, s, crowd, compared, same)
		}
		crowd, compared = made.Crowd(), c
	}
	if crowd != 1 || compared != same {
		t.Errorf("%d have one stamp of all bits; %d comparisons, %d of them of equal byte strings", crowd, compared, same)
	}
}

// calls puts more than there is room for, and finds it; what it tells does not depend on the number of bits.
func calls(t *testing.T, made *Table) {
	t.Helper()
	for i := range 1000 {
		key := i * i % 389
		row := []byte(strconv.Itoa(key))
		n, fault := made.Put(row)
		found, stored := made.Find(row)
		if found != n || stored != (fault == api.OK) {
			t.Fatalf("Put(%s) = %d, %d; Find is %d, %v", row, n, fault, found, stored)
		}
		if b, _ := made.Get(n); stored && !bytes.Equal(b, row) {
			t.Fatalf("Put(%s) = %d, whose byte string is %s", row, n, b)
		}
	}
	for i := 0; made.Len() < 300; i++ {
		made.Put([]byte("r" + strconv.Itoa(i)))
	}
	puts(t, made, "another", 0, api.ErrFull)
}

// P11.7: no two numbers have the same byte string.
func TestNumbersApart(t *testing.T) {
	for _, bits := range []int{0, 3, 64} {
		made := table(t, bits, 300)
		calls(t, made)
		numbers := map[string]int{}
		for n := range made.Len() {
			b, _ := made.Get(n)
			if other, is := numbers[string(b)]; is {
				t.Errorf("%q has the numbers %d and %d", b, other, n)
			}
			numbers[string(b)] = n
		}
	}
}
