package digest_test

import (
	"bytes"
	"crypto/sha256"
	"encoding/hex"
	"math/rand"
	"testing"

	"sponsion/api"
	"sponsion/digest"
)

// mixed: n bytes without a pattern, the same for the same n and seed.
func mixed(n int, seed int64) []byte {
	b := make([]byte, n)
	rand.New(rand.NewSource(seed)).Read(b)
	return b
}

// cut: b as parts of about so many bytes, some of them nil or empty.
func cut(b []byte, about int, r *rand.Rand) [][]byte {
	parts := [][]byte{nil}
	for len(b) > 0 {
		n := min(r.Intn(2*about+1), len(b))
		parts = append(parts, b[:n:n])
		b = b[n:]
	}
	return append(parts, []byte{})
}

// P5.1: sums that are known from elsewhere.
func TestKnownSums(t *testing.T) {
	for _, c := range []struct {
		in   []byte
		want string
	}{
		{nil, "e3b0c44298fc1c149afbf4c8996fb92427ae41e4649b934ca495991b7852b855"},
		{[]byte("abc"), "ba7816bf8f01cfea414140de5dae2223b00361a396177a9cb410ff61f20015ad"},
		{[]byte("abcdbcdecdefdefgefghfghighijhijkijkljklmklmnlmnomnopnopq"), "248d6a61d20638b8e5c026930c3e6039a33ce45964ff2167f6ecedd419db06c1"},
		{[]byte("abcdefghbcdefghicdefghijdefghijkefghijklfghijklmghijklmnhijklmnoijklmnopjklmnopqklmnopqrlmnopqrsmnopqrstnopqrstu"), "cf5b16a778af8380036ce59e7b0492370b249b11e8f07a51afac45037afee9d1"},
		{bytes.Repeat([]byte("a"), 1000000), "cdc76e5c9914fb9281a1c7e284d73e67f1809a48a497200e046d39ccc7112cd0"},
	} {
		if got := digest.Hex(digest.Sum(c.in)); got != c.want {
			t.Errorf("%d bytes: %s; want %s", len(c.in), got, c.want)
		}
	}
}

// P5.1: every length about the ends of the first blocks, of noughts, ones and bytes without a pattern.
func TestEachLength(t *testing.T) {
	for n := range 520 {
		for _, b := range [][]byte{make([]byte, n), bytes.Repeat([]byte{255}, n), mixed(n, int64(n)), mixed(n, -1)} {
			if got := digest.Sum(b); got != api.Hash(sha256.Sum256(b)) {
				t.Fatalf("%d bytes: %x; want %x", n, got, sha256.Sum256(b))
			}
		}
	}
}

// P5.1: lengths whose count of bits needs each of its lower bytes.
func TestLongSums(t *testing.T) {
	for _, n := range []int{1<<13 - 1, 1 << 13, 1<<13 + 55, 1 << 16, 1<<21 + 56, 1<<21 - 9, 3<<21 + 63} {
		b := mixed(n, int64(n))
		if got := digest.Sum(b); got != api.Hash(sha256.Sum256(b)) {
			t.Errorf("%d bytes: %x; want %x", n, got, sha256.Sum256(b))
		}
	}
}

// P5.1: so many bytes that the count of their bits needs more than 32 bits.
func TestManyBits(t *testing.T) {
	b := mixed(1<<20, 11)
	s, want := digest.New(), sha256.New()
	for range 1<<9 + 1 {
		s.Add(b)
		want.Write(b)
	}
	if got := s.Sum(); got != api.Hash(want.Sum(nil)) {
		t.Errorf("%x; want %x", got, want.Sum(nil))
	}
}

// P5.1: one bit alone, in each place of a block and behind it.
func TestEachBit(t *testing.T) {
	for i := range 100 * 8 {
		b := make([]byte, 100)
		b[i/8] = 128 >> (i % 8)
		if got := digest.Sum(b); got != api.Hash(sha256.Sum256(b)) {
			t.Fatalf("bit %d: %x; want %x", i, got, sha256.Sum256(b))
		}
	}
}

// P5.1: no parts, empty ones, and the same bytes in parts of any length.
func TestParts(t *testing.T) {
	nothing := api.Hash(sha256.Sum256(nil))
	for _, parts := range [][][]byte{nil, {}, {nil}, {{}}, {nil, {}, nil}} {
		if digest.Sum(parts...) != nothing || digest.New().Add(parts...).Sum() != nothing {
			t.Errorf("%v isn't summed up as nothing", parts)
		}
	}
	r := rand.New(rand.NewSource(5))
	for _, n := range []int{1, 2, 63, 64, 65, 127, 128, 129, 200, 1000} {
		b := mixed(n, int64(n))
		want := api.Hash(sha256.Sum256(b))
		for _, about := range []int{1, 3, 32, 64, 100} {
			parts := cut(b, about, r)
			if digest.Sum(parts...) != want || digest.New().Add(parts...).Sum() != want {
				t.Errorf("%d bytes in %d parts", n, len(parts))
			}
		}
	}
}

// P5.1: the order of parts tells, and where one ends doesn't.
func TestOrderOfParts(t *testing.T) {
	a, b := []byte("one"), []byte("other")
	if digest.Sum(a, b) == digest.Sum(b, a) {
		t.Error("the order of parts doesn't tell")
	}
	if digest.Sum(a, b) != digest.Sum([]byte("on"), []byte("eother")) || digest.Sum(a, b) != digest.New().Add(a).Add(b).Sum() {
		t.Error("where a part ends tells")
	}
}

// P5.1: each cut in two of some blocks, with sums asked for between.
func TestEachCut(t *testing.T) {
	b := mixed(150, 7)
	for n := range len(b) + 1 {
		s := digest.New()
		if s.Add(b[:n]) != s {
			t.Fatal("Add tells another State")
		}
		for range 2 {
			if got := s.Sum(); got != api.Hash(sha256.Sum256(b[:n])) {
				t.Fatalf("the first %d: %x", n, got)
			}
		}
		if got := s.Add(b[n:]).Sum(); got != api.Hash(sha256.Sum256(b)) {
			t.Fatalf("%d, a Sum, and the rest: %x", n, got)
		}
	}
}

// P5.1: byte by byte, with a Sum behind each.
func TestGoesOnBehindEachSum(t *testing.T) {
	b := mixed(400, 8)
	s := digest.New()
	for n := range len(b) {
		if got := s.Sum(); got != api.Hash(sha256.Sum256(b[:n])) {
			t.Fatalf("%d bytes: %x", n, got)
		}
		if s.Add(b[n:n+1]) != s || s.Add() != s || s.Add(nil, []byte{}) != s {
			t.Fatal("Add tells another State")
		}
	}
	if got := s.Sum(); got != api.Hash(sha256.Sum256(b)) {
		t.Errorf("all: %x", got)
	}
}

// R5: what one State is told, another doesn't know.
func TestEachForItself(t *testing.T) {
	a, b := digest.New(), digest.New()
	a.Add([]byte("a"))
	b.Add(mixed(100, 9))
	a.Sum()
	if digest.New().Sum() != digest.Sum() || a.Sum() != digest.Sum([]byte("a")) || b.Sum() != digest.Sum(mixed(100, 9)) {
		t.Error("a State knows of another one")
	}
}

// P5.2: what is handed in, and its spare room, stays as it is, and nobody sees it if it changes later.
func TestHandedInIsNeitherChangedNorKept(t *testing.T) {
	for _, n := range []int{0, 1, 55, 56, 63, 64, 65, 130} {
		room := mixed(n+300, 10)
		was := bytes.Clone(room)
		parts := [][]byte{room[:n], room[:n/2]}
		want := api.Hash(sha256.Sum256(append(bytes.Clone(room[:n]), room[:n/2]...)))
		s := digest.New().Add(parts...)
		if digest.Sum(parts...) != want || s.Sum() != want {
			t.Fatalf("%d bytes, and half of them again", n)
		}
		if !bytes.Equal(room, was) || len(parts) != 2 || len(parts[0]) != n || len(parts[1]) != n/2 {
			t.Fatalf("%d bytes: changed", n)
		}
		clear(room)
		clear(parts)
		if s.Sum() != want || !bytes.Equal(room, make([]byte, n+300)) {
			t.Errorf("%d bytes: kept", n)
		}
	}
}

// P5.1: by the first byte that differs alone, and bytes have no sign.
func TestLess(t *testing.T) {
	for i := range 32 {
		for _, c := range [][2]byte{{0, 1}, {0, 255}, {127, 128}, {128, 255}, {1, 128}, {254, 255}} {
			lesser, greater := api.Hash(mixed(32, int64(i))), api.Hash(mixed(32, int64(i)))
			lesser[i], greater[i] = c[0], c[1]
			for j := i + 1; j < 32; j++ {
				lesser[j], greater[j] = 255, 0
			}
			if !digest.Less(lesser, greater) || digest.Less(greater, lesser) {
				t.Errorf("byte %d: %d, %d", i, c[0], c[1])
			}
		}
	}
	full := api.Hash(bytes.Repeat([]byte{255}, 32))
	for _, h := range []api.Hash{{}, full, digest.Sum()} {
		if digest.Less(h, h) {
			t.Errorf("%x is less than itself", h)
		}
	}
	if !digest.Less(api.Hash{}, full) || digest.Less(full, api.Hash{}) {
		t.Error("the ends")
	}
}

// P5.1: each byte in each place.
func TestHex(t *testing.T) {
	for b := range 256 {
		var h api.Hash
		for i := range h {
			h[i] = byte(b + 8*i)
		}
		if got := digest.Hex(h); got != hex.EncodeToString(h[:]) {
			t.Errorf("%v: %q", h, got)
		}
	}
	if got := digest.Hex(api.Hash{0: 0x1a, 31: 0xf0}); got != "1a"+string(bytes.Repeat([]byte("0"), 60))+"f0" {
		t.Error(got)
	}
}
