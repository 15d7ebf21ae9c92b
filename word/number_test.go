package word

import (
	"math"
	"math/big"
	"math/bits"
	"testing"

	"organon/api"
)

// P1.5
func TestFold(t *testing.T) {
	for _, c := range []struct {
		n int64
		u uint64
	}{
		{0, 0}, {-1, 1}, {1, 2}, {-2, 3}, {2, 4}, {-3, 5},
		{math.MinInt64, math.MaxUint64},
		{math.MaxInt64, math.MaxUint64 - 1},
		{math.MinInt64 + 1, math.MaxUint64 - 2},
		{math.MaxInt64 - 1, math.MaxUint64 - 3},
		{1 << 62, 1 << 63},
		{-1 << 62, 1<<63 - 1},
		{math.MaxInt32 + 1, 1 << 32},
	} {
		if Fold(c.n) != c.u {
			t.Errorf("Fold(%d) = %d; want %d", c.n, Fold(c.n), c.u)
		}
		if Unfold(c.u) != c.n {
			t.Errorf("Unfold(%d) = %d; want %d", c.u, Unfold(c.u), c.n)
		}
	}
}

// P1.5: the formulas of the document, computed without a bound.
func TestFoldFormulas(t *testing.T) {
	for _, w := range words() {
		n := int64(w)
		want := new(big.Int).Mul(big.NewInt(n), big.NewInt(2))
		if n < 0 {
			want.Neg(want).Sub(want, big.NewInt(1))
		}
		if new(big.Int).SetUint64(Fold(n)).Cmp(want) != 0 {
			t.Errorf("Fold(%d) = %d; want %v", n, Fold(n), want)
		}
		if Unfold(Fold(n)) != n || Fold(Unfold(w)) != w {
			t.Errorf("Unfold does not undo Fold at %d", n)
		}
	}
}

// P1.6
func TestNarrow(t *testing.T) {
	for _, c := range []struct {
		n     int64
		width int
		want  int64
	}{
		{200, 8, -56}, {-129, 8, 127}, {5, 1, -1}, {5, 64, 5},
		{4, 1, 0}, {-1, 1, -1}, {0, 1, 0},
		{127, 8, 127}, {128, 8, -128}, {-128, 8, -128}, {256, 8, 0},
		{math.MinInt64, 64, math.MinInt64}, {math.MaxInt64, 64, math.MaxInt64},
		{math.MinInt64, 63, 0}, {math.MaxInt64, 63, -1}, {1 << 62, 63, -1 << 62}, {1<<62 - 1, 63, 1<<62 - 1},
		{math.MinInt64, 1, 0}, {math.MaxInt64, 1, -1},
		{1 << 31, 32, -1 << 31}, {1<<32 + 7, 32, 7},
	} {
		if got, e := Narrow(c.n, c.width); got != c.want || e != api.OK {
			t.Errorf("Narrow(%d, %d) = %d, %d; want %d", c.n, c.width, got, e, c.want)
		}
	}
}

// P1.6: the bounds and the multiple that the document names, at each width.
func TestNarrowAllWidths(t *testing.T) {
	for width := 1; width <= 64; width++ {
		least, most := int64(-1)<<(width-1), int64(uint64(1)<<(width-1)-1)
		for _, w := range words() {
			n := int64(w)
			got, e := Narrow(n, width)
			if e != api.OK || got < least || got > most {
				t.Errorf("Narrow(%d, %d) = %d, %d; not from %d to %d", n, width, got, e, least, most)
			}
			gap := new(big.Int).Sub(big.NewInt(n), big.NewInt(got))
			if unit := new(big.Int).Lsh(big.NewInt(1), uint(width)); gap.Rem(gap, unit).Sign() != 0 {
				t.Errorf("Narrow(%d, %d) = %d: no multiple of 2^%d away", n, width, got, width)
			}
		}
	}
}

// P1.6, R2
func TestNarrowWrongWidth(t *testing.T) {
	for _, width := range []int{0, -1, 65, 66, 128, -64, 1 << 32, 1<<32 + 8, math.MinInt, math.MaxInt} {
		if got, e := Narrow(5, width); got != 0 || e != api.ErrArg {
			t.Errorf("Narrow(5, %d) = %d, %d; want 0, ErrArg", width, got, e)
		}
	}
}

// P1.7
func TestTurn(t *testing.T) {
	for _, c := range []struct {
		u    uint64
		by   int
		want uint64
	}{
		{1, 1, 2}, {1, -1, 1 << 63}, {1, 64, 1}, {3, 63, 1<<63 + 1},
		{3, -1, 1<<63 + 1}, {1 << 63, 1, 1}, {5, 0, 5}, {5, -64, 5}, {5, 128, 5}, {5, -128, 5},
		{1, 65, 2}, {1, -65, 1 << 63}, {1, 127, 1 << 63}, {2, -63, 4},
		{7, math.MinInt, 7}, {1, math.MaxInt, 1 << 63}, {1, math.MinInt + 1, 2},
		{math.MaxUint64, 17, math.MaxUint64}, {0, 17, 0},
	} {
		if Turn(c.u, c.by) != c.want {
			t.Errorf("Turn(%#x, %d) = %#x; want %#x", c.u, c.by, Turn(c.u, c.by), c.want)
		}
	}
	for _, u := range words() {
		for by := -200; by <= 200; by++ {
			if Turn(u, by) != bits.RotateLeft64(u, by) {
				t.Errorf("Turn(%#x, %d) = %#x", u, by, Turn(u, by))
			}
			if Turn(Turn(u, by), -by) != u {
				t.Errorf("Turn(%#x, %d) is not undone by %d", u, by, -by)
			}
		}
	}
}
