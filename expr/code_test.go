package expr

import (
	"bytes"
	"math"
	"math/rand"
	"slices"
	"testing"

	"organon/api"
	"organon/word"
)

// heads returns the encoding of nodes given as Kind, Id, number of Kids.
func heads(t *testing.T, list ...[3]int) []byte {
	t.Helper()
	var b []byte
	for _, h := range list {
		packed, e := word.Pack(h[0], h[1], h[2])
		if e != api.OK {
			t.Fatal(h)
		}
		b = append(b, word.Put(uint64(packed))...)
	}
	return b
}

// spread returns the encoding of e, valid or not, by the words of P2.5.
func spread(t *testing.T, e api.Expr) []byte {
	t.Helper()
	b := heads(t, [3]int{e.Kind, e.Id, len(e.Kids)})
	for _, kid := range e.Kids {
		b = append(b, spread(t, kid)...)
	}
	return b
}

// decodes fails unless Decode(b) is want, or returns fault.
func decodes(t *testing.T, name string, b []byte, want api.Expr, fault api.Errno) {
	t.Helper()
	got, e := Decode(b)
	if e != fault || !equal(got, want) {
		t.Errorf("%s: %v, %d; want %v, %d", name, got.Kind, e, want.Kind, fault)
	}
}

// P2.5: the row of the examples, and all nodes of q.
func TestEncodeExamples(t *testing.T) {
	for _, c := range []struct {
		e    api.Expr
		want []byte
	}{
		{v(), []byte{128, 134, 128, 8}},
		{c(), []byte{128, 128, 128, 16}},
		{q(), []byte{129, 134, 128, 56, 129, 128, 128, 40, 130, 132, 128, 24, 128, 134, 128, 8, 128, 128, 128, 16}},
	} {
		if b, e := Encode(c.e); !bytes.Equal(b, c.want) || e != api.OK {
			t.Errorf("Encode(%v) = %v, %d; want %v", c.e, b, e, c.want)
		}
	}
}

// P2.5, P2.9
func TestEncode(t *testing.T) {
	for i, e := range valid() {
		b, fault := Encode(e)
		if fault != api.OK || !bytes.Equal(b, spread(t, e)) {
			t.Fatalf("valid %d: %v, %d", i, b, fault)
		}
		back, fault := Decode(b)
		if fault != api.OK || !equal(back, e) {
			t.Fatalf("valid %d: %v, %d", i, back, fault)
		}
		claim(t, map[*api.Expr]bool{}, back)
	}
}

// P2.5, R2, R8
func TestEncodeWrong(t *testing.T) {
	for want, list := range wrong() {
		for i, e := range list {
			if b, fault := Encode(e); len(b) != 0 || fault != want {
				t.Errorf("wrong %d: %v, %d; want %d", i, b, fault, want)
			}
		}
	}
}

// P2.5, R4: two results are two memories.
func TestEncodeAnew(t *testing.T) {
	a, _ := Encode(q())
	b, _ := Encode(q())
	kept := slices.Clone(b)
	a = a[:cap(a)]
	for i := range a {
		a[i] = 1
	}
	if !bytes.Equal(b, kept) {
		t.Error("memory is shared")
	}
}

// P2.6: the row of the examples.
func TestDecodeExamples(t *testing.T) {
	b, _ := Encode(v())
	decodes(t, "no bytes", nil, api.Expr{}, api.ErrShort)
	decodes(t, "empty", []byte{}, api.Expr{}, api.ErrShort)
	decodes(t, "a byte too many", append(b, 0), api.Expr{}, api.ErrRest)
	decodes(t, "a kid that is missing", heads(t, [3]int{5, 0, 1}), api.Expr{}, api.ErrShort)
}

// P2.6, R2: bytes that end too early, at every place, and bytes that are left over.
func TestDecodeShortAndRest(t *testing.T) {
	for _, e := range []api.Expr{v(), c(), p(), n(), q(), sized(60)} {
		b, _ := Encode(e)
		for end := range b {
			decodes(t, "cut", b[:end], api.Expr{}, api.ErrShort)
		}
		decodes(t, "whole", b, e, api.OK)
		for _, more := range [][]byte{{0}, {128}, {255, 255}, b} {
			decodes(t, "longer", slices.Concat(b, more), api.Expr{}, api.ErrRest)
		}
	}
}

// P2.6: heads that can't be decoded, or are too great.
func TestDecodeForm(t *testing.T) {
	not := heads(t, [3]int{api.Not, 0, 1})
	for _, head := range [][]byte{
		{128, 0},
		{128, 134, 128, 136, 0},
		word.Put(1 << 32),
		word.Put(1<<32 + 1<<24),
		word.Put(math.MaxUint64),
		{255, 255, 255, 255, 255, 255, 255, 255, 255, 2},
		{128, 128, 128, 128, 128, 128, 128, 128, 128, 128, 1},
	} {
		decodes(t, "first head", head, api.Expr{}, api.ErrForm)
		decodes(t, "a kid's head", slices.Concat(not, head), api.Expr{}, api.ErrForm)
		decodes(t, "with more behind it", slices.Concat(head, not), api.Expr{}, api.ErrForm)
	}
	// The greatest head says 255 Kids; so many are read.
	greatest := word.Put(math.MaxUint32)
	decodes(t, "the greatest head", greatest, api.Expr{}, api.ErrShort)
	leaf := heads(t, [3]int{api.Var, 0, 0})
	decodes(t, "254 Kids", slices.Concat(greatest, bytes.Repeat(leaf, 254)), api.Expr{}, api.ErrShort)
	decodes(t, "255 Kids", slices.Concat(greatest, bytes.Repeat(leaf, 255)), api.Expr{}, api.ErrShape)
	decodes(t, "256 Kids", slices.Concat(greatest, bytes.Repeat(leaf, 256)), api.Expr{}, api.ErrRest)
}

// P2.6: the error of Right comes last.
func TestDecodeWrong(t *testing.T) {
	for i, e := range slices.Concat(misshapen(), tooDeep()) {
		if _, fault := word.Pack(e.Kind, e.Id, len(e.Kids)); fault != api.OK {
			continue
		}
		b := spread(t, e)
		if got, fault := Decode(b); !isZero(got) || fault != Right(e) {
			t.Errorf("wrong %d: %d; want %d", i, fault, Right(e))
		}
		if got, fault := Decode(append(b, 0)); !isZero(got) || fault != api.ErrRest {
			t.Errorf("wrong %d and a byte: %d", i, fault)
		}
		if got, fault := Decode(b[:len(b)-1]); !isZero(got) || fault != api.ErrShort {
			t.Errorf("wrong %d without a byte: %d", i, fault)
		}
	}
	for _, h := range [][3]int{{0, 0, 0}, {11, 0, 0}, {255, 0, 0}, {1, 64, 0}, {1, 65535, 0}, {2, 100, 0}, {5, 0, 0}} {
		decodes(t, "one head", heads(t, h), api.Expr{}, api.ErrShape)
	}
}

// P2.6: MaxNodes heads, and one more that is required.
func TestDecodeMany(t *testing.T) {
	decodes(t, "1000 nodes", spread(t, sized(1000)), sized(1000), api.OK)
	decodes(t, "1000 nodes and a byte", append(spread(t, sized(1000)), 0), api.Expr{}, api.ErrRest)
	decodes(t, "1001 nodes", spread(t, sized(1001)), api.Expr{}, api.ErrMany)
	decodes(t, "5000 nodes", spread(t, sized(5000)), api.Expr{}, api.ErrMany)
	decodes(t, "1001 nodes and a byte", append(spread(t, sized(1001)), 0), api.Expr{}, api.ErrMany)

	nots := func(count int) []byte { return bytes.Repeat(heads(t, [3]int{api.Not, 0, 1}), count) }
	leaf := heads(t, [3]int{api.Atom, 0, 0})
	bad := []byte{128, 0}
	decodes(t, "999 negations and nothing", nots(999), api.Expr{}, api.ErrShort)
	decodes(t, "999 negations and an atom", slices.Concat(nots(999), leaf), api.Expr{}, api.ErrDeep)
	decodes(t, "999 negations and a bad head", slices.Concat(nots(999), bad), api.Expr{}, api.ErrForm)
	decodes(t, "1000 negations and nothing", nots(1000), api.Expr{}, api.ErrMany)
	decodes(t, "1000 negations and an atom", slices.Concat(nots(1000), leaf), api.Expr{}, api.ErrMany)
	decodes(t, "1000 negations and a bad head", slices.Concat(nots(1000), bad), api.Expr{}, api.ErrMany)

	// More Kids than MaxNodes are announced, but the bytes end before they are there.
	full := bytes.Repeat(heads(t, [3]int{api.Atom, 0, 255}), 10)
	decodes(t, "2541 Kids announced", full, api.Expr{}, api.ErrShort)
	decodes(t, "and a bad head", slices.Concat(full, bad), api.Expr{}, api.ErrForm)
	decodes(t, "and 989 more heads", slices.Concat(full, bytes.Repeat(leaf, 989)), api.Expr{}, api.ErrShort)
	decodes(t, "and 990 more heads", slices.Concat(full, bytes.Repeat(leaf, 990)), api.Expr{}, api.ErrMany)
	decodes(t, "a crowd", bytes.Repeat(heads(t, [3]int{255, 65535, 255}), 200000), api.Expr{}, api.ErrMany)
}

// P2.6: 100 and 101 nodes nested in each other.
func TestDecodeDeep(t *testing.T) {
	for _, e := range []api.Expr{nested(99, node(api.Atom, 0)), nestedTerm(99, v())} {
		decodes(t, "100 nested", spread(t, e), e, api.OK)
	}
	for _, e := range []api.Expr{nested(100, node(api.Atom, 0)), nestedTerm(100, v()), nested(100, v())} {
		decodes(t, "101 nested", spread(t, e), api.Expr{}, api.ErrDeep)
	}
}

// P2.9, R1: whatever Decode accepts is the encoding of its result.
func TestDecodeRandom(t *testing.T) {
	r := rand.New(rand.NewSource(4))
	accepted := 0
	for range 20000 {
		var b []byte
		switch r.Intn(3) {
		case 0:
			for range r.Intn(12) {
				b = append(b, byte(r.Intn(256)))
			}
		case 1:
			b = spread(t, randomFormula(r, 3))
			b[r.Intn(len(b))] ^= 1 << r.Intn(8)
		case 2:
			for range 1 + r.Intn(4) {
				b = append(b, heads(t, [3]int{r.Intn(11), r.Intn(2), r.Intn(3)})...)
			}
		}
		kept := slices.Clone(b)
		e, fault := Decode(b)
		if !bytes.Equal(b, kept) {
			t.Fatalf("%v is changed", kept)
		}
		if fault != api.OK {
			if !isZero(e) {
				t.Fatalf("%v: %v, %d", b, e, fault)
			}
			continue
		}
		accepted++
		if back, fault := Encode(e); fault != api.OK || !bytes.Equal(back, b) || Right(e) != api.OK {
			t.Fatalf("%v: %v, %v", b, e, back)
		}
	}
	if accepted < 1000 {
		t.Errorf("only %d accepted", accepted)
	}
}

// R4: the bytes behind b are neither read nor changed.
func TestDecodeSpareCapacity(t *testing.T) {
	whole := append(spread(t, q()), 9, 9, 9)
	b := whole[:len(whole)-3]
	decodes(t, "whole", b, q(), api.OK)
	decodes(t, "cut", b[:len(b)-4], api.Expr{}, api.ErrShort)
	if !bytes.Equal(whole, append(spread(t, q()), 9, 9, 9)) {
		t.Error("bytes are changed")
	}
}
