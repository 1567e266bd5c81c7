package domain_test

import (
	"bytes"
	"crypto/sha256"
	"encoding/binary"
	"encoding/hex"
	"math"
	"math/rand"
	"slices"
	"testing"

	"sponsion/api"
	"sponsion/domain"
)

// wantText: a text, by another way.
func wantText(tag uint8, parts ...[]byte) []byte {
	text := []byte{tag}
	for _, part := range parts {
		text = binary.BigEndian.AppendUint32(text, uint32(len(part)))
		text = append(text, part...)
	}
	return text
}

// wantOf: a sum, by another SHA-256.
func wantOf(tag uint8, parts ...[]byte) api.Hash { return sha256.Sum256(wantText(tag, parts...)) }

// mixed: n bytes without a pattern, the same for the same n and seed.
func mixed(n int, seed int64) []byte {
	b := make([]byte, n)
	rand.New(rand.NewSource(seed)).Read(b)
	return b
}

// P6.1: the tags' numbers, and their type.
func TestTags(t *testing.T) {
	got := []uint8{domain.TagLeaf, domain.TagNode, domain.TagEmpty, domain.TagIntent, domain.TagBooks}
	if !slices.Equal(got, []uint8{0, 1, 2, 3, 4}) {
		t.Error(got)
	}
	tag := domain.TagBooks
	var _ *uint8 = &tag
}

// P6.1: the chapter's example, and texts written out.
func TestTextWrittenOut(t *testing.T) {
	for _, c := range []struct {
		tag   uint8
		parts [][]byte
		want  []byte
	}{
		{1, [][]byte{[]byte("ab"), []byte("")}, []byte{1, 0, 0, 0, 2, 'a', 'b', 0, 0, 0, 0}},
		{0, nil, []byte{0}},
		{255, [][]byte{}, []byte{255}},
		{2, [][]byte{nil}, []byte{2, 0, 0, 0, 0}},
		{2, [][]byte{{}}, []byte{2, 0, 0, 0, 0}},
		{3, [][]byte{nil, {9}, {}}, []byte{3, 0, 0, 0, 0, 0, 0, 0, 1, 9, 0, 0, 0, 0}},
		{128, [][]byte{{0, 0, 0, 0}}, []byte{128, 0, 0, 0, 4, 0, 0, 0, 0}},
	} {
		if got := domain.Text(c.tag, c.parts...); !bytes.Equal(got, c.want) {
			t.Errorf("%d, %v: %v; want %v", c.tag, c.parts, got, c.want)
		}
	}
}

// P6.1: each tag, those without a name too.
func TestEachTag(t *testing.T) {
	for tag := range 256 {
		for _, parts := range [][][]byte{nil, {nil}, {[]byte("ab"), {}, {byte(tag)}}} {
			tag := uint8(tag)
			if got := domain.Text(tag, parts...); !bytes.Equal(got, wantText(tag, parts...)) {
				t.Errorf("Text of %d, %v: %v", tag, parts, got)
			}
			if got := domain.Of(tag, parts...); got != wantOf(tag, parts...) {
				t.Errorf("Of %d, %v: %x", tag, parts, got)
			}
		}
	}
}

// P6.1: lengths that need each byte of their number.
func TestLengths(t *testing.T) {
	for _, n := range []int{0, 1, 31, 32, 54, 55, 63, 64, 127, 128, 255, 256, 257, 65535, 65536, 65537, 1<<24 - 1, 1 << 24, 1<<24 + 258} {
		b := mixed(n, int64(n))
		for _, parts := range [][][]byte{{b}, {{7}, b, nil, {8}}} {
			if !bytes.Equal(domain.Text(3, parts...), wantText(3, parts...)) {
				t.Errorf("Text: a part of %d bytes", n)
			}
			if domain.Of(3, parts...) != wantOf(3, parts...) {
				t.Errorf("Of: a part of %d bytes", n)
			}
		}
		if domain.Leaf(b) != wantOf(0, b) {
			t.Errorf("Leaf: %d bytes", n)
		}
	}
}

// P6.1: more parts than a byte can count.
func TestManyParts(t *testing.T) {
	for _, n := range []int{2, 255, 256, 257, 70000} {
		parts := make([][]byte, n)
		for i := range parts {
			parts[i] = mixed(i%5, int64(i%3))
		}
		if !bytes.Equal(domain.Text(4, parts...), wantText(4, parts...)) || domain.Of(4, parts...) != wantOf(4, parts...) {
			t.Errorf("%d parts", n)
		}
	}
}

// P6.1: sums written out, so that they never change.
func TestKnownSums(t *testing.T) {
	for _, c := range []struct {
		name string
		got  api.Hash
		want string
	}{
		{"Leaf of nothing", domain.Leaf(nil), "8855508aade16ec573d21e6a485dfd0a7624085c1a14b5ecdd6485de0c6839a4"},
		{"Empty(0)", domain.Empty(0), "dbc1b4c900ffe48d575b5da5c638040125f65db0fe3e24494b76ea986457d986"},
		{"Node of noughts", domain.Node(api.Hash{}, api.Hash{}), "4a875a7e1538ef0001b24e6e7de6b796669be495b8b73dbb3e5ab88abfe459ef"},
		{"Empty(32)", domain.Empty(32), "e004df219cdc0c0da733f3ff312c6c61bf523f62305c2da718400ff570516296"},
	} {
		if got := hex.EncodeToString(c.got[:]); got != c.want {
			t.Errorf("%s: %s; want %s", c.name, got, c.want)
		}
	}
}

// P6.1: both sums in their order, of any bytes.
func TestNode(t *testing.T) {
	full := api.Hash(bytes.Repeat([]byte{255}, 32))
	sums := []api.Hash{{}, full, domain.Leaf(nil), domain.Empty(0), api.Hash(mixed(32, 1))}
	for _, l := range sums {
		for _, r := range sums {
			if got := domain.Node(l, r); got != wantOf(1, l[:], r[:]) {
				t.Errorf("Node of %x and %x: %x", l, r, got)
			}
			if l != r && domain.Node(l, r) == domain.Node(r, l) {
				t.Errorf("the order of %x and %x doesn't tell", l, r)
			}
		}
	}
}

// P6.1: a Leaf is one part; nil and empty data are the same.
func TestLeaf(t *testing.T) {
	if domain.Leaf(nil) != domain.Leaf([]byte{}) || domain.Leaf(nil) != wantOf(0, nil) || domain.Leaf(nil) == wantOf(0) {
		t.Error("without data")
	}
	a, b := domain.Leaf([]byte("a")), domain.Leaf([]byte("b"))
	both := append(bytes.Clone(a[:]), b[:]...)
	if domain.Leaf(both) == domain.Node(a, b) || domain.Leaf(both) == domain.Of(domain.TagLeaf, a[:], b[:]) {
		t.Error("a Leaf of two sums is their Node")
	}
}

// P6.1: each level, and all unlike.
func TestEmpty(t *testing.T) {
	want := wantOf(2)
	seen := map[api.Hash]int{}
	for level := range api.Depth + 1 {
		if got := domain.Empty(level); got != want {
			t.Fatalf("level %d: %x; want %x", level, got, want)
		}
		if at, ok := seen[want]; ok {
			t.Fatalf("levels %d and %d are one", at, level)
		}
		seen[want] = level
		want = wantOf(1, want[:], want[:])
	}
}

// P6.1, R1: levels that aren't there.
func TestEmptyBeyond(t *testing.T) {
	for _, level := range []int{-1, -2, -32, -33, math.MinInt32, math.MinInt + 1, math.MinInt} {
		if domain.Empty(level) != domain.Empty(0) {
			t.Errorf("level %d isn't level 0", level)
		}
	}
	for _, level := range []int{33, 34, 64, 255, 256, 1 << 32, math.MaxInt32, math.MaxInt - 1, math.MaxInt} {
		if domain.Empty(level) != domain.Empty(api.Depth) {
			t.Errorf("level %d isn't level %d", level, api.Depth)
		}
	}
}

// smallLists: all lists of at most so many parts, of at most so many bytes 0, 1 each.
func smallLists(parts, size int) [][][]byte {
	words := [][]byte{{}}
	for from := 0; size > 0; size-- {
		to := len(words)
		for _, w := range words[from:to] {
			words = append(words, append(bytes.Clone(w), 0), append(bytes.Clone(w), 1))
		}
		from = to
	}
	lists := [][][]byte{nil}
	for from := 0; parts > 0; parts-- {
		to := len(lists)
		for _, l := range lists[from:to] {
			for _, w := range words {
				lists = append(lists, append(slices.Clone(l), w))
			}
		}
		from = to
	}
	return lists
}

// P6.2: all tags and lists of short parts have a text of their own, and a sum.
func TestUnlikeTexts(t *testing.T) {
	texts, sums := map[string]int{}, map[api.Hash]int{}
	n := 0
	for tag := range uint8(5) {
		for _, parts := range smallLists(3, 3) {
			texts[string(domain.Text(tag, parts...))] = n
			sums[domain.Of(tag, parts...)] = n
			n++
		}
	}
	if len(texts) != n || len(sums) != n {
		t.Errorf("%d texts and %d sums of %d things", len(texts), len(sums), n)
	}
}

// P6.2: parts that look like other parts' lengths, and bytes that stand in another part or at another end.
func TestTextsThatLookAlike(t *testing.T) {
	long := make([]byte, 256)
	things := [][][]byte{
		nil,
		{nil},
		{nil, nil},
		{{0, 0, 0, 0}},
		{{0, 0, 0, 0}, nil},
		{nil, {0, 0, 0, 0}},
		{{0, 0, 0, 0, 0, 0, 0, 0}},
		{[]byte("ab")},
		{[]byte("a"), []byte("b")},
		{[]byte("b"), []byte("a")},
		{[]byte("ab"), nil},
		{nil, []byte("ab")},
		{[]byte("a\x00\x00\x00\x01b")},
		{[]byte("a\x00"), []byte("b")},
		{[]byte("a"), []byte("\x00b")},
		{long},
		{long[:255]},
		{long[:128], long[:128]},
		{long[:124], long[:128]},
		{append([]byte{1}, long...)},
	}
	seen := map[string]int{}
	for i, parts := range things {
		for tag := range 256 {
			key := string(domain.Text(uint8(tag), parts...))
			if at, ok := seen[key]; ok {
				t.Errorf("%v of tag %d has the text of number %d", parts, tag, at)
			}
			seen[key] = i
		}
	}
}

// apart: parts that lie one in the other's spare room.
func apart(room []byte, sizes ...int) [][]byte {
	var parts [][]byte
	for _, n := range sizes {
		parts = append(parts, room[:n])
		room = room[n/2:]
	}
	return parts
}

// P6.2, R4: what is handed in, its spare room and the list of parts too, stays as it is.
func TestHandedInIsNotChanged(t *testing.T) {
	room := mixed(400, 2)
	was := bytes.Clone(room)
	for _, sizes := range [][]int{{}, {0}, {1}, {64, 0, 65}, {100, 100, 100}} {
		parts := append(apart(room, sizes...), []byte("spare"))[:len(sizes)]
		want := wantText(3, parts...)
		for range 2 {
			if !bytes.Equal(domain.Text(3, parts...), want) || domain.Of(3, parts...) != api.Hash(sha256.Sum256(want)) {
				t.Fatalf("parts of %v bytes", sizes)
			}
		}
		for i, part := range parts {
			if len(part) != sizes[i] {
				t.Errorf("parts of %v bytes: the list is changed", sizes)
			}
		}
		if string(parts[:len(sizes)+1][len(sizes)]) != "spare" {
			t.Errorf("parts of %v bytes: the list's spare room is changed", sizes)
		}
	}
	domain.Leaf(room[:64])
	if !bytes.Equal(room, was) {
		t.Error("the bytes are changed")
	}
}

// P6.2, R4: an answer is apart from what was handed in, and from other answers.
func TestAnswersAreNewMemory(t *testing.T) {
	a, b := mixed(40, 3), mixed(3, 4)
	want := wantText(1, a, b)
	first, second := domain.Text(1, a, b), domain.Text(1, a, b)
	clear(first[:cap(first)])
	if !bytes.Equal(a, mixed(40, 3)) || !bytes.Equal(b, mixed(3, 4)) || !bytes.Equal(second, want) {
		t.Error("an answer that changes, changes others")
	}
	clear(a)
	clear(b)
	if !bytes.Equal(second, want) {
		t.Error("what was handed in is kept in an answer")
	}
	none := domain.Text(7)
	none[0] = 8
	if !bytes.Equal(domain.Text(7), []byte{7}) {
		t.Error("a text without parts is shared")
	}
}

// R5: an answer hangs on its arguments alone.
func TestSameAgain(t *testing.T) {
	leaf, top := domain.Leaf([]byte("x")), domain.Empty(5)
	domain.Text(9, mixed(100, 5))
	domain.Empty(32)
	domain.Node(leaf, top)
	if domain.Leaf([]byte("x")) != leaf || domain.Empty(5) != top {
		t.Error("it was another one before")
	}
}
