package word

import (
	"math"
	"math/bits"
	"slices"
	"testing"

	"organon/api"
)

// outside are numbers that no set can have.
var outside = []int{-1, 64, 65, 70, 127, 128, -63, -64, math.MinInt, math.MaxInt, 1 << 32, 1<<32 + 3}

// words are sets, values and digests at all edges: empty, full, single bits, and mixed ones.
func words() []uint64 {
	l := []uint64{0, math.MaxUint64, 9, 0x0123456789ABCDEF, 0x5555555555555555, 0xAAAAAAAAAAAAAAAA}
	for n := range 64 {
		bit := uint64(1) << n
		l = append(l, bit, bit-1, ^bit, bit+1)
	}
	x := uint64(88172645463325252)
	for range 500 {
		x ^= x << 13
		x ^= x >> 7
		x ^= x << 17
		l = append(l, x)
	}
	return l
}

// P1.1
func TestSet(t *testing.T) {
	all := make([]int, 64)
	for n := range all {
		all[n] = 63 - n
	}
	for _, c := range []struct {
		l    []int
		want uint64
	}{
		{[]int{3, 0, 3}, 9},
		{nil, 0},
		{[]int{}, 0},
		{[]int{0}, 1},
		{[]int{63}, 1 << 63},
		{[]int{63, 0}, 1<<63 + 1},
		{[]int{5, 5, 5, 5}, 32},
		{[]int{31, 32}, 1<<31 + 1<<32},
		{all, math.MaxUint64},
	} {
		if s, e := Set(c.l); s != c.want || e != api.OK {
			t.Errorf("Set(%v) = %d, %d; want %d", c.l, s, e, c.want)
		}
	}
}

// P1.1, R2
func TestSetOutside(t *testing.T) {
	for _, n := range outside {
		for _, l := range [][]int{{n}, {3, n}, {n, 3}, {3, n, 3}} {
			if s, e := Set(l); s != 0 || e != api.ErrArg {
				t.Errorf("Set(%v) = %d, %d; want 0, ErrArg", l, s, e)
			}
		}
	}
}

// P1.1
func TestList(t *testing.T) {
	if l := List(9); !slices.Equal(l, []int{0, 3}) {
		t.Errorf("List(9) = %v", l)
	}
	if l := List(0); len(l) != 0 {
		t.Errorf("List(0) = %v", l)
	}
	for _, s := range words() {
		l := List(s)
		if len(l) != bits.OnesCount64(s) {
			t.Errorf("List(%#x) has %d numbers", s, len(l))
		}
		for i, n := range l {
			if n < 0 || n > 63 || s&(1<<n) == 0 {
				t.Errorf("List(%#x) has %d", s, n)
			}
			if i > 0 && l[i-1] >= n {
				t.Errorf("List(%#x) does not increase: %v", s, l)
			}
		}
	}
}

// P1.2
func TestHasWithWithout(t *testing.T) {
	if !Has(9, 3) || Has(9, 1) || Has(9, 64) || With(9, 1) != 11 || Without(9, 3) != 1 || Without(9, 70) != 9 {
		t.Error("the row of the examples")
	}
	for _, s := range words() {
		for n := range 64 {
			bit := uint64(1) << n
			if Has(s, n) != (s&bit != 0) {
				t.Errorf("Has(%#x, %d) = %v", s, n, Has(s, n))
			}
			if With(s, n) != s|bit {
				t.Errorf("With(%#x, %d) = %#x", s, n, With(s, n))
			}
			if Without(s, n) != s&^bit {
				t.Errorf("Without(%#x, %d) = %#x", s, n, Without(s, n))
			}
		}
		for _, n := range outside {
			if Has(s, n) || With(s, n) != s || Without(s, n) != s {
				t.Errorf("Has, With, Without(%#x, %d) = %v, %#x, %#x", s, n, Has(s, n), With(s, n), Without(s, n))
			}
		}
	}
}

// P1.2
func TestCountLeast(t *testing.T) {
	if Count(9) != 2 || Least(8) != 3 || Least(0) != -1 || Count(0) != 0 || Count(math.MaxUint64) != 64 || Least(1<<63) != 63 {
		t.Error("the row of the examples, and the edges")
	}
	for _, s := range words() {
		if Count(s) != bits.OnesCount64(s) {
			t.Errorf("Count(%#x) = %d", s, Count(s))
		}
		if s != 0 && Least(s) != bits.TrailingZeros64(s) {
			t.Errorf("Least(%#x) = %d", s, Least(s))
		}
	}
}

// P1.10
func TestSetOfList(t *testing.T) {
	for _, s := range words() {
		if back, e := Set(List(s)); back != s || e != api.OK {
			t.Errorf("Set(List(%#x)) = %#x, %d", s, back, e)
		}
	}
}

// R4
func TestSetOwnership(t *testing.T) {
	whole := []int{3, 0, 3, 99, -7}
	if s, e := Set(whole[:3]); s != 9 || e != api.OK {
		t.Errorf("Set looks behind the end: %d, %d", s, e)
	}
	if !slices.Equal(whole, []int{3, 0, 3, 99, -7}) {
		t.Errorf("Set changed its argument: %v", whole)
	}
	for _, s := range []uint64{0, 9, math.MaxUint64} {
		a, b := List(s), List(s)
		want := slices.Clone(b)
		dirtyInts(a)
		if !slices.Equal(b[:len(want)], want) || !slices.Equal(List(s), want) {
			t.Errorf("two lists of %#x share memory", s)
		}
	}
}

func dirtyInts(l []int) {
	l = l[:cap(l)]
	for i := range l {
		l[i] = -5
	}
}
