package pack_test

import (
	"bytes"
	"math"
	"testing"

	"sponsion/api"
	"sponsion/huge"
	"sponsion/pack"
)

const top = 1<<64 - 1

// count: n bytes, each unlike its neighbours.
func count(n int) []byte {
	b := make([]byte, n)
	for i := range b {
		b[i] = byte(i + 1)
	}
	return b
}

func sum(first byte) api.Hash {
	var h api.Hash
	for i := range h {
		h[i] = first + byte(i)
	}
	return h
}

// thing: one that can be written and read, and how many bytes it has.
type thing struct {
	name  string
	bytes []byte
	write func(w *pack.Writer) *pack.Writer
	same  func(r *pack.Reader) bool // reads it; is it this one?
	zero  func(r *pack.Reader) bool // reads one of its kind; is it zero?
}

func u8(x uint8, b ...byte) thing {
	return thing{"U8", b,
		func(w *pack.Writer) *pack.Writer { return w.U8(x) },
		func(r *pack.Reader) bool { return r.U8() == x },
		func(r *pack.Reader) bool { return r.U8() == 0 }}
}

func u32(x uint32, b ...byte) thing {
	return thing{"U32", b,
		func(w *pack.Writer) *pack.Writer { return w.U32(x) },
		func(r *pack.Reader) bool { return r.U32() == x },
		func(r *pack.Reader) bool { return r.U32() == 0 }}
}

func u64(x uint64, b ...byte) thing {
	return thing{"U64", b,
		func(w *pack.Writer) *pack.Writer { return w.U64(x) },
		func(r *pack.Reader) bool { return r.U64() == x },
		func(r *pack.Reader) bool { return r.U64() == 0 }}
}

func number(a api.Int, b ...byte) thing {
	return thing{"Int", b,
		func(w *pack.Writer) *pack.Writer { return w.Int(a) },
		func(r *pack.Reader) bool { return r.Int() == a },
		func(r *pack.Reader) bool { return r.Int() == api.Int{} }}
}

func hash(h api.Hash) thing {
	return thing{"Hash", h[:],
		func(w *pack.Writer) *pack.Writer { return w.Hash(h) },
		func(r *pack.Reader) bool { return r.Hash() == h },
		func(r *pack.Reader) bool { return r.Hash() == api.Hash{} }}
}

func raw(b []byte) thing {
	return thing{"Raw", b,
		func(w *pack.Writer) *pack.Writer { return w.Raw(b) },
		func(r *pack.Reader) bool { return bytes.Equal(r.Raw(len(b)), b) },
		func(r *pack.Reader) bool { return len(r.Raw(len(b))) == 0 }}
}

// things: of each kind, at both ends and with no two bytes alike.
func things() []thing {
	full := bytes.Repeat([]byte{255}, 32)
	mixed, _ := huge.Read(count(32))
	return []thing{
		u8(0, 0), u8(7, 7), u8(255, 255),
		u32(0, 0, 0, 0, 0), u32(258, 0, 0, 1, 2), u32(0x01020304, 1, 2, 3, 4), u32(math.MaxUint32, full[:4]...), u32(1<<31, 128, 0, 0, 0),
		u64(0, make([]byte, 8)...), u64(0x0102030405060708, count(8)...), u64(top, full[:8]...), u64(1<<63, 128, 0, 0, 0, 0, 0, 0, 0), u64(1<<40, 0, 0, 1, 0, 0, 0, 0, 0),
		number(api.Int{}, make([]byte, 32)...), number(huge.Of(5), append(make([]byte, 31), 5)...),
		number(mixed, count(32)...), number(api.Int{top, top, top, top}, full...), number(api.Int{0, 0, 0, 1 << 63}, append([]byte{128}, make([]byte, 31)...)...),
		hash(api.Hash{}), hash(sum(1)), hash(sum(200)), hash(api.Hash(full)),
		raw(nil), raw([]byte{}), raw([]byte{0}), raw([]byte("xy")), raw(count(300)),
	}
}

// P4.1
func TestWriteOne(t *testing.T) {
	for _, c := range things() {
		var w pack.Writer
		if c.write(&w) != &w {
			t.Errorf("%s %v: another Writer is told", c.name, c.bytes)
		}
		if got := w.Bytes(); !bytes.Equal(got, c.bytes) {
			t.Errorf("%s: %v; want %v", c.name, got, c.bytes)
		}
	}
}

// P4.1: at first nothing, then one behind the other; Bytes writes nothing.
func TestWriteMany(t *testing.T) {
	var w pack.Writer
	var want []byte
	if got := w.Bytes(); len(got) != 0 {
		t.Fatalf("at first: %v", got)
	}
	for range 3 {
		for _, c := range things() {
			c.write(&w)
			want = append(want, c.bytes...)
			for range 2 {
				if got := w.Bytes(); !bytes.Equal(got, want) {
					t.Fatalf("behind %s: %v; want %v", c.name, got, want)
				}
			}
		}
	}
}

// P4.1
func TestWriteInARow(t *testing.T) {
	var w pack.Writer
	got := w.U8(9).U32(258).U64(3).Int(huge.Of(4)).Hash(sum(1)).Raw([]byte("xy")).Bytes()
	want := []byte{9, 0, 0, 1, 2, 0, 0, 0, 0, 0, 0, 0, 3}
	want = append(append(want, make([]byte, 31)...), 4)
	h := sum(1)
	want = append(append(want, h[:]...), 'x', 'y')
	if !bytes.Equal(got, want) {
		t.Errorf("%v; want %v", got, want)
	}
}

// P4.2
func TestReadOne(t *testing.T) {
	for _, c := range things() {
		r := pack.Of(c.bytes)
		if r.Left() != len(c.bytes) || r.Err() != api.OK {
			t.Errorf("%s %v, at first: %d left, %d", c.name, c.bytes, r.Left(), r.Err())
		}
		if !c.same(r) || r.Left() != 0 || r.Err() != api.OK || r.End() != api.OK {
			t.Errorf("%s of just %v: %d left, %d, %d", c.name, c.bytes, r.Left(), r.Err(), r.End())
		}
		more := pack.Of(append(c.bytes[:len(c.bytes):len(c.bytes)], 77, 88))
		if !c.same(more) || more.Left() != 2 || more.Err() != api.OK || more.U8() != 77 || more.U8() != 88 || more.End() != api.OK {
			t.Errorf("%s of %v and two more: %d left, %d", c.name, c.bytes, more.Left(), more.Err())
		}
	}
}

// failed: has r this error, nothing left, and is each thing that is read of it zero?
func failed(r *pack.Reader, e api.Errno) bool {
	zero := r.Left() == 0
	for _, c := range things() {
		zero = zero && c.zero(r)
	}
	zero = zero && len(r.Raw(0)) == 0 && len(r.Raw(-1)) == 0 && len(r.Raw(math.MaxInt)) == 0
	return zero && r.Left() == 0 && r.Err() == e && r.End() == e
}

// P4.2: too few bytes, from none to all but one.
func TestReadShort(t *testing.T) {
	for _, c := range things() {
		for n := range len(c.bytes) {
			r := pack.Of(bytes.Repeat([]byte{255}, n))
			if !c.zero(r) || !failed(r, api.ErrShort) {
				t.Fatalf("%s of %d bytes: %d left, %d", c.name, n, r.Left(), r.Err())
			}
			behind := pack.Of(append([]byte{6}, bytes.Repeat([]byte{255}, n)...))
			if behind.U8() != 6 || !c.zero(behind) || !failed(behind, api.ErrShort) {
				t.Fatalf("%s of %d bytes behind another: %d left, %d", c.name, n, behind.Left(), behind.Err())
			}
		}
	}
}

// P4.2: numbers of bytes below 0 are as 0; those beyond what is left are too many.
func TestReadRaw(t *testing.T) {
	for _, n := range []int{0, -1, -2, math.MinInt32, math.MinInt} {
		for _, b := range [][]byte{nil, {}, {1, 2, 3}} {
			r := pack.Of(b)
			if got := r.Raw(n); len(got) != 0 || r.Left() != len(b) || r.Err() != api.OK {
				t.Errorf("Raw(%d) of %v: %v, %d left, %d", n, b, got, r.Left(), r.Err())
			}
		}
	}
	for _, n := range []int{4, 5, math.MaxInt32, math.MaxInt} {
		r := pack.Of([]byte{1, 2, 3})
		if got := r.Raw(n); len(got) != 0 || !failed(r, api.ErrShort) {
			t.Errorf("Raw(%d) of 3: %v, %d left, %d", n, got, r.Left(), r.Err())
		}
	}
	r := pack.Of([]byte{1, 2, 3})
	if first, rest := r.Raw(2), r.Raw(1); !bytes.Equal(first, []byte{1, 2}) || !bytes.Equal(rest, []byte{3}) || r.End() != api.OK {
		t.Errorf("Raw(2), Raw(1): %v, %v, %d", first, rest, r.End())
	}
}

// P4.2: each error, and numbers that aren't any of api's.
func TestFail(t *testing.T) {
	for _, e := range []api.Errno{api.ErrArg, api.ErrShort, api.ErrLong, api.ErrForm, api.ErrSyntax, 18, -1, math.MaxInt, math.MinInt} {
		for _, b := range [][]byte{nil, count(100)} {
			r := pack.Of(b)
			r.Fail(e)
			if !failed(r, e) {
				t.Errorf("Fail(%d) of %d bytes: %d left, %d, %d", e, len(b), r.Left(), r.Err(), r.End())
			}
			r.Fail(api.ErrOverflow)
			r.Fail(api.OK)
			if !failed(r, e) {
				t.Errorf("Fail(%d), and then others: %d, %d", e, r.Err(), r.End())
			}
		}
	}
}

// P4.2
func TestFailOK(t *testing.T) {
	r := pack.Of([]byte{1, 2})
	r.Fail(api.OK)
	if r.Left() != 2 || r.Err() != api.OK || r.End() != api.ErrLong || r.U8() != 1 || r.U8() != 2 || r.End() != api.OK {
		t.Errorf("Fail(OK): %d left, %d, %d", r.Left(), r.Err(), r.End())
	}
	r.Fail(api.OK)
	r.Fail(api.ErrForm)
	if !failed(r, api.ErrForm) {
		t.Errorf("Fail(OK), then Fail(ErrForm): %d", r.Err())
	}
}

// P4.2: the first error stays, whichever way the second one comes.
func TestFirstErrorStays(t *testing.T) {
	r := pack.Of([]byte{1, 2, 3})
	r.U32()
	r.Fail(api.ErrForm)
	if !failed(r, api.ErrShort) {
		t.Errorf("short, then Fail: %d", r.Err())
	}
	r = pack.Of([]byte{1, 2, 3})
	r.Fail(api.ErrForm)
	r.U32()
	if !failed(r, api.ErrForm) {
		t.Errorf("Fail, then short: %d", r.Err())
	}
}

// P4.2: End has no error by what it tells, and takes nothing.
func TestEnd(t *testing.T) {
	r := pack.Of([]byte{1, 2})
	for left := 2; left > 0; left-- {
		if r.End() != api.ErrLong || r.End() != api.ErrLong || r.Err() != api.OK || r.Left() != left {
			t.Errorf("%d left: %d, %d, %d left", left, r.End(), r.Err(), r.Left())
		}
		r.U8()
	}
	if r.End() != api.OK || r.Err() != api.OK {
		t.Errorf("none left: %d, %d", r.End(), r.Err())
	}
	r.U8()
	if r.End() != api.ErrShort || r.Err() != api.ErrShort {
		t.Errorf("beyond the end: %d, %d", r.End(), r.Err())
	}
}

// P4.2
func TestReadNothing(t *testing.T) {
	for _, b := range [][]byte{nil, {}} {
		r := pack.Of(b)
		if r.Left() != 0 || r.Err() != api.OK || r.End() != api.OK {
			t.Errorf("%d left, %d, %d", r.Left(), r.Err(), r.End())
		}
	}
}

// P4.3: each thing ahead of each other one, and all of them in a row.
func TestWhatIsWrittenIsRead(t *testing.T) {
	l := things()
	for _, a := range l {
		for _, b := range l {
			var w pack.Writer
			r := pack.Of(b.write(a.write(&w)).Bytes())
			if !a.same(r) || !b.same(r) || r.End() != api.OK {
				t.Errorf("%s %v, then %s %v: %d", a.name, a.bytes, b.name, b.bytes, r.End())
			}
		}
	}
	var w pack.Writer
	for _, c := range l {
		c.write(&w)
	}
	r := pack.Of(w.Bytes())
	for _, c := range l {
		if !c.same(r) {
			t.Errorf("%s %v, in a row: %d", c.name, c.bytes, r.Err())
		}
	}
	if r.End() != api.OK {
		t.Errorf("in a row: %d", r.End())
	}
}

// P4.3: bytes that are handed in, and their spare room, stay as they are, and nobody sees it if they change later.
func TestHandedInIsNeitherChangedNorKept(t *testing.T) {
	room := count(40)
	b := room[:3]
	var w pack.Writer
	w.Raw(b).U64(top).Raw(b[:0]).U64(top)
	r := pack.Of(b)
	if !bytes.Equal(room, count(40)) {
		t.Fatalf("changed: %v", room)
	}
	clear(room)
	if got := w.Bytes(); !bytes.Equal(got[:3], count(3)) {
		t.Errorf("a Writer kept what was handed in: %v", got)
	}
	if got := r.Raw(3); !bytes.Equal(got, count(3)) {
		t.Errorf("a Reader kept what was handed in: %v", got)
	}
	if !bytes.Equal(room, make([]byte, 40)) {
		t.Errorf("changed: %v", room)
	}
}

// P4.3
func TestBytesAreNewMemory(t *testing.T) {
	var w pack.Writer
	w.Raw(count(5))
	first, second := w.Bytes(), w.Bytes()
	clear(first)
	_ = append(first, 99, 99, 99)
	w.U8(6)
	_ = append(second, 77, 77, 77)
	if got := w.Bytes(); !bytes.Equal(got, count(6)) || !bytes.Equal(second, count(5)) {
		t.Errorf("%v, and the answer ahead of it %v", got, second)
	}
}

// P4.3: nor does what is written behind an answer of a Reader reach the bytes that are left.
func TestRawIsNewMemory(t *testing.T) {
	r := pack.Of(count(6))
	first := r.Raw(2)
	clear(first)
	_ = append(first, 99, 99, 99)
	empty := r.Raw(0)
	_ = append(empty, 99)
	second := r.Raw(2)
	if rest := r.Raw(2); !bytes.Equal(second, []byte{3, 4}) || !bytes.Equal(rest, []byte{5, 6}) {
		t.Errorf("%v, %v", second, rest)
	}
}

// R5: what one is told, another doesn't know.
func TestEachForItself(t *testing.T) {
	var v, w pack.Writer
	v.U8(1)
	w.U8(2)
	if !bytes.Equal(v.Bytes(), []byte{1}) || !bytes.Equal(w.Bytes(), []byte{2}) {
		t.Errorf("%v, %v", v.Bytes(), w.Bytes())
	}
	b := count(2)
	q, r := pack.Of(b), pack.Of(b)
	q.Fail(api.ErrForm)
	if r.Err() != api.OK || r.U8() != 1 || r.U8() != 2 || q.Err() != api.ErrForm {
		t.Errorf("%d, %d", q.Err(), r.Err())
	}
}
