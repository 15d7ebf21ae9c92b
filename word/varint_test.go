package word

import (
	"bytes"
	"encoding/binary"
	"math"
	"testing"

	"organon/api"
)

// nines are nine bytes 255, and then the given ones.
func nines(then ...byte) []byte {
	return append(bytes.Repeat([]byte{255}, 9), then...)
}

// zeros are as many bytes 128, and then the given ones.
func zeros(n int, then ...byte) []byte {
	return append(bytes.Repeat([]byte{128}, n), then...)
}

// P1.4
func TestPut(t *testing.T) {
	for _, c := range []struct {
		n    uint64
		want []byte
	}{
		{0, []byte{0}},
		{1, []byte{1}},
		{127, []byte{127}},
		{128, []byte{128, 1}},
		{300, []byte{172, 2}},
		{1<<14 - 1, []byte{255, 127}},
		{1 << 14, []byte{128, 128, 1}},
		{1<<63 - 1, append(bytes.Repeat([]byte{255}, 8), 127)},
		{1 << 63, zeros(9, 1)},
		{math.MaxUint64, nines(1)},
	} {
		if b := Put(c.n); !bytes.Equal(b, c.want) {
			t.Errorf("Put(%d) = %v; want %v", c.n, b, c.want)
		}
	}
	for _, n := range words() {
		if want := binary.AppendUvarint(nil, n); !bytes.Equal(Put(n), want) {
			t.Errorf("Put(%d) = %v; want %v", n, Put(n), want)
		}
	}
}

// P1.4, R2
func TestGet(t *testing.T) {
	for _, c := range []struct {
		b    []byte
		n    uint64
		size int
		e    api.Errno
	}{
		{[]byte{172, 2, 9}, 300, 2, api.OK},
		{[]byte{128}, 0, 0, api.ErrShort},
		{nil, 0, 0, api.ErrShort},
		{[]byte{}, 0, 0, api.ErrShort},
		{[]byte{128, 0}, 0, 0, api.ErrForm},
		{nines(2), 0, 0, api.ErrForm},
		{nines(1), math.MaxUint64, 10, api.OK},
		{nines(1, 0, 255), math.MaxUint64, 10, api.OK},
		{zeros(9, 1), 1 << 63, 10, api.OK},
		{[]byte{0}, 0, 1, api.OK},
		{[]byte{0, 0}, 0, 1, api.OK},
		{[]byte{0, 128}, 0, 1, api.OK},
		{[]byte{127, 255}, 127, 1, api.OK},
		{[]byte{128, 1}, 128, 2, api.OK},
		{[]byte{255, 0}, 0, 0, api.ErrForm},
		{[]byte{255, 0, 1}, 0, 0, api.ErrForm},
		{[]byte{255, 128, 1}, 127 + 1<<14, 3, api.OK},
		{[]byte{128, 128, 0}, 0, 0, api.ErrForm},
		{[]byte{255, 255}, 0, 0, api.ErrShort},
		{nines(), 0, 0, api.ErrShort},
		{zeros(9), 0, 0, api.ErrShort},
		{nines(0), 0, 0, api.ErrForm},
		{zeros(9, 0), 0, 0, api.ErrForm},
		{nines(127), 0, 0, api.ErrForm},
		{nines(128), 0, 0, api.ErrForm},
		{nines(129), 0, 0, api.ErrForm},
		{nines(255), 0, 0, api.ErrForm},
		{zeros(9, 128, 1), 0, 0, api.ErrForm},
		{zeros(100), 0, 0, api.ErrForm},
	} {
		if n, size, e := Get(c.b); n != c.n || size != c.size || e != c.e {
			t.Errorf("Get(%v) = %d, %d, %d; want %d, %d, %d", c.b, n, size, e, c.n, c.size, c.e)
		}
	}
}

// P1.4, P1.10: all strings of one and two bytes, and some of three.
func TestGetShortStrings(t *testing.T) {
	for a := range 256 {
		checkGet(t, []byte{byte(a)})
		for b := range 256 {
			checkGet(t, []byte{byte(a), byte(b)})
			for _, c := range []byte{0, 1, 127, 128, 255} {
				checkGet(t, []byte{byte(a), byte(b), c})
			}
		}
	}
}

// P1.4: each tenth byte after nine that say that more follow. The bytes are examined one after the other, so that a
// tenth byte that is too great is found ahead of the end of b.
func TestGetTenthByte(t *testing.T) {
	for c := range 256 {
		for _, b := range [][]byte{nines(byte(c)), nines(byte(c), 1), zeros(9, byte(c)), zeros(9, byte(c), 128)} {
			n, size, e := Get(b)
			if c == 1 {
				if want := uint64(1)<<63 + uint64(b[0]&1)*(1<<63-1); n != want || size != 10 || e != api.OK {
					t.Errorf("Get(%v) = %d, %d, %d; want %d, 10", b, n, size, e, want)
				}
			} else if n != 0 || size != 0 || e != api.ErrForm {
				t.Errorf("Get(%v) = %d, %d, %d; want ErrForm", b, n, size, e)
			}
		}
	}
}

// checkGet holds Get against the library's decoder, and against Put, which writes each number in only one way.
func checkGet(t *testing.T, b []byte) {
	t.Helper()
	n, size, e := Get(b)
	want, length := binary.Uvarint(b)
	switch {
	case length == 0:
		if n != 0 || size != 0 || e != api.ErrShort {
			t.Errorf("Get(%v) = %d, %d, %d; want ErrShort", b, n, size, e)
		}
	case length < 0 || length > 1 && b[length-1] == 0:
		if n != 0 || size != 0 || e != api.ErrForm {
			t.Errorf("Get(%v) = %d, %d, %d; want ErrForm", b, n, size, e)
		}
	default:
		if n != want || size != length || e != api.OK {
			t.Errorf("Get(%v) = %d, %d, %d; want %d, %d", b, n, size, e, want, length)
		} else if !bytes.Equal(Put(n), b[:size]) {
			t.Errorf("Put(%d) = %v; Get read %v", n, Put(n), b[:size])
		}
	}
}

// P1.10
func TestGetOfPut(t *testing.T) {
	for _, n := range words() {
		b := Put(n)
		for _, rest := range [][]byte{nil, {0}, {1}, {127}, {128}, {255, 255}, zeros(20)} {
			got, size, e := Get(append(bytes.Clone(b), rest...))
			if got != n || size != len(b) || e != api.OK {
				t.Errorf("Get(Put(%d), %v) = %d, %d, %d", n, rest, got, size, e)
			}
		}
		for end := range b {
			if got, size, e := Get(b[:end:end]); got != 0 || size != 0 || e != api.ErrShort {
				t.Errorf("Get of %d bytes of Put(%d) = %d, %d, %d; want ErrShort", end, n, got, size, e)
			}
		}
	}
}

// R4
func TestVarintOwnership(t *testing.T) {
	whole := []byte{128, 1, 7}
	if n, size, e := Get(whole[:1]); n != 0 || size != 0 || e != api.ErrShort {
		t.Errorf("Get looks behind the end: %d, %d, %d", n, size, e)
	}
	Get(whole)
	if !bytes.Equal(whole, []byte{128, 1, 7}) {
		t.Errorf("Get changed its argument: %v", whole)
	}
	for _, n := range []uint64{0, 300, math.MaxUint64} {
		a, b := Put(n), Put(n)
		want := bytes.Clone(b)
		a = a[:cap(a)]
		for i := range a {
			a[i] = 99
		}
		if !bytes.Equal(b, want) || !bytes.Equal(Put(n), want) {
			t.Errorf("two varints of %d share memory", n)
		}
	}
}
