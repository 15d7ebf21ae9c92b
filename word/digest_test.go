package word

import (
	"bytes"
	"math"
	"math/big"
	"testing"

	"organon/api"
)

// P1.8: values that were computed apart from this program.
func TestMix(t *testing.T) {
	for _, c := range []struct{ h, x, want uint64 }{
		{0, 0, 0},
		{1, 0, 0xCBFA53E13FF4A7C1},
		{0, 1, 0xCBFA53E13FF4A7C1},
		{1, 1, 0},
		{5, 3, 0xC7DDF7427FBBEE87},
		{math.MaxUint64, 0, 0x61C8864643248F66},
		{1 << 63, 0, 0xE5FD29F19FFA53E0},
		{0xCBF29CE484222325, 97, 0x5DAC5E2AAEE5A6A7},
		{0x0123456789ABCDEF, 0xFEDCBA9876543210, 0x61C8864643248F66},
	} {
		if Mix(c.h, c.x) != c.want {
			t.Errorf("Mix(%#x, %#x) = %#x; want %#x", c.h, c.x, Mix(c.h, c.x), c.want)
		}
	}
}

// P1.8: the definition of the document, computed without a bound.
func TestMixDefinition(t *testing.T) {
	whole := new(big.Int).Lsh(big.NewInt(1), 64)
	factor := new(big.Int).SetUint64(0x9E3779B97F4A7C15)
	l := words()
	for i, h := range l {
		x := l[len(l)-1-i]
		v := new(big.Int).SetUint64(Turn(h^x, 27))
		v.Mul(v, factor).Mod(v, whole)
		v.Xor(v, new(big.Int).Rsh(v, 31))
		if Mix(h, x) != v.Uint64() {
			t.Errorf("Mix(%#x, %#x) = %#x; want %#x", h, x, Mix(h, x), v)
		}
	}
}

// P1.8: values that were computed apart from this program.
func TestDigest(t *testing.T) {
	each := make([]byte, 256)
	for i := range each {
		each[i] = byte(i)
	}
	for _, c := range []struct {
		b    []byte
		want uint64
	}{
		{nil, 0xAA5C35F4E9057118},
		{[]byte{}, 0xAA5C35F4E9057118},
		{[]byte{0}, 0x2D931C0F51957F45},
		{[]byte{0, 0}, 0x3F7DD7FA3B2610A1},
		{[]byte{0x80}, 0xAB43FA0812BFB508},
		{[]byte{0xFF}, 0x2718C3BB8424C101},
		{[]byte("a"), 0x33685FE534DF660F},
		{[]byte("ab"), 0xAF90DDAC63D9A21A},
		{[]byte("ba"), 0x7DD6094F3FE8596E},
		{[]byte("organon"), 0x51E7E9CF1B415281},
		{each, 0x82AA2FFC4640DEB0},
	} {
		if Digest(c.b) != c.want {
			t.Errorf("Digest(%q) = %#x; want %#x", c.b, Digest(c.b), c.want)
		}
	}
}

// R4
func TestDigestOwnership(t *testing.T) {
	whole := []byte("organon and more")
	if Digest(whole[:7]) != 0x51E7E9CF1B415281 {
		t.Error("Digest looks behind the end")
	}
	if !bytes.Equal(whole, []byte("organon and more")) {
		t.Errorf("Digest changed its argument: %q", whole)
	}
}

// P1.9, R2
func TestCut(t *testing.T) {
	for _, c := range []struct {
		d    uint64
		bits int
		want uint64
		e    api.Errno
	}{
		{1 << 63, 1, 1, api.OK}, {1 << 63, 2, 2, api.OK}, {5, 0, 0, api.OK}, {5, 64, 5, api.OK}, {5, 65, 0, api.ErrArg},
		{5, 63, 2, api.OK}, {5, 62, 1, api.OK}, {5, 61, 0, api.OK},
		{math.MaxUint64, 0, 0, api.OK}, {math.MaxUint64, 1, 1, api.OK}, {math.MaxUint64, 63, 1<<63 - 1, api.OK},
		{math.MaxUint64, 64, math.MaxUint64, api.OK}, {0x0123456789ABCDEF, 16, 0x0123, api.OK},
		{5, -1, 0, api.ErrArg}, {5, 128, 0, api.ErrArg}, {5, -64, 0, api.ErrArg},
		{math.MaxUint64, 1 << 32, 0, api.ErrArg}, {math.MaxUint64, math.MinInt, 0, api.ErrArg}, {math.MaxUint64, math.MaxInt, 0, api.ErrArg},
	} {
		if got, e := Cut(c.d, c.bits); got != c.want || e != c.e {
			t.Errorf("Cut(%#x, %d) = %#x, %d; want %#x, %d", c.d, c.bits, got, e, c.want, c.e)
		}
	}
}

// P1.10
func TestCutHalves(t *testing.T) {
	for _, d := range words() {
		last, e := Cut(d, 64)
		if last != d || e != api.OK {
			t.Errorf("Cut(%#x, 64) = %#x, %d", d, last, e)
		}
		for bits := 63; bits >= 0; bits-- {
			got, e := Cut(d, bits)
			if got != last/2 || e != api.OK {
				t.Errorf("Cut(%#x, %d) = %#x, %d; want %#x", d, bits, got, e, last/2)
			}
			last = got
		}
	}
}
