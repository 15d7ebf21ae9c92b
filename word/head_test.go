package word

import (
	"math"
	"testing"

	"organon/api"
)

// P1.3
func TestPack(t *testing.T) {
	for _, c := range []struct {
		kind, id, kids int
		want           uint32
	}{
		{2, 1, 3, 33554691},
		{0, 0, 0, 0},
		{1, 0, 0, 1 << 24},
		{0, 1, 0, 1 << 8},
		{0, 0, 1, 1},
		{255, 0, 0, 0xFF000000},
		{0, 65535, 0, 0x00FFFF00},
		{0, 0, 255, 0x000000FF},
		{255, 65535, 255, math.MaxUint32},
		{10, 99, 4, 10*1<<24 + 99*1<<8 + 4},
	} {
		if h, e := Pack(c.kind, c.id, c.kids); h != c.want || e != api.OK {
			t.Errorf("Pack(%d, %d, %d) = %d, %d; want %d", c.kind, c.id, c.kids, h, e, c.want)
		}
	}
}

// P1.3, R2
func TestPackOutside(t *testing.T) {
	far := []int{-1, 1 << 16, 1 << 24, 1 << 32, 1<<32 + 1, math.MinInt, math.MaxInt}
	var heads [][3]int
	for _, n := range append(far, 256) {
		heads = append(heads, [3]int{n, 0, 0}, [3]int{n, 5, 5}, [3]int{0, 0, n}, [3]int{5, 5, n})
	}
	for _, n := range far {
		heads = append(heads, [3]int{0, n, 0}, [3]int{5, n, 5}, [3]int{n, n, n})
	}
	for _, f := range heads {
		if h, e := Pack(f[0], f[1], f[2]); h != 0 || e != api.ErrArg {
			t.Errorf("Pack(%d, %d, %d) = %d, %d; want 0, ErrArg", f[0], f[1], f[2], h, e)
		}
	}
}

// P1.3
func TestUnpack(t *testing.T) {
	if kind, id, kids := Unpack(33554691); kind != 2 || id != 1 || kids != 3 {
		t.Errorf("Unpack(33554691) = %d, %d, %d", kind, id, kids)
	}
	for _, w := range words() {
		for _, h := range []uint32{uint32(w), uint32(w >> 32)} {
			kind, id, kids := Unpack(h)
			if kind != int(h/(1<<24)) || id != int(h/(1<<8)%(1<<16)) || kids != int(h%(1<<8)) {
				t.Errorf("Unpack(%#x) = %d, %d, %d", h, kind, id, kids)
			}
			if back, e := Pack(kind, id, kids); back != h || e != api.OK {
				t.Errorf("Pack(Unpack(%#x)) = %#x, %d", h, back, e)
			}
		}
	}
}
