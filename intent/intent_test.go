package intent_test

import (
	"bytes"
	"crypto/sha256"
	"encoding/binary"
	"encoding/hex"
	"math"
	"math/rand"
	"testing"

	"sponsion/api"
	"sponsion/intent"
	"sponsion/pack"
)

const top = 1<<64 - 1

// wantBytes: an intent's bytes, by another way.
func wantBytes(x api.Intent) []byte {
	b := binary.BigEndian.AppendUint32(nil, x.Index)
	b = append(b, x.Token, x.Owner)
	for i := 3; i >= 0; i-- {
		b = binary.BigEndian.AppendUint64(b, x.Amount[i])
	}
	return b
}

// wantSum: the sum of a tag and an intent's bytes, by another SHA-256.
func wantSum(tag byte, x api.Intent) api.Hash {
	return sha256.Sum256(append([]byte{tag, 0, 0, 0, 38}, wantBytes(x)...))
}

// mayBe: the chapter's words, by another way.
func mayBe(x api.Intent) bool {
	return x.Token <= 3 && x.Owner <= 15 && x.Amount[0]|x.Amount[1]|x.Amount[2]|x.Amount[3] != 0
}

var indexes = []uint32{0, 1, 255, 256, 258, 0x01020304, 1 << 31, math.MaxUint32}

var amounts = []api.Int{
	{}, {1}, {4}, {0, 1}, {0, 0, 1}, {0, 0, 0, 1}, {0, 0, 0, 1 << 63}, {top},
	{0x191a1b1c1d1e1f20, 0x1112131415161718, 0x090a0b0c0d0e0f10, 0x0102030405060708},
	{top, top, top, top},
}

// intents: each mix of some parts, at their ends and beyond what may be.
func intents() []api.Intent {
	var l []api.Intent
	for _, index := range indexes {
		for _, token := range []uint8{0, 1, 3, 4, 128, 255} {
			for _, owner := range []uint8{0, 1, 15, 16, 128, 255} {
				for _, amount := range amounts {
					l = append(l, api.Intent{Index: index, Token: token, Owner: owner, Amount: amount})
				}
			}
		}
	}
	return l
}

// good: an intent that may be, each of its bytes unlike its neighbours.
func good() api.Intent {
	return api.Intent{Index: 0x80706050, Token: 2, Owner: 3, Amount: amounts[8]}
}

// with: the same one but for a part.
func with(x api.Intent, change func(x *api.Intent)) api.Intent {
	change(&x)
	return x
}

// bads: intents of which one part alone, or all, may not be.
func bads() []api.Intent {
	return []api.Intent{
		with(good(), func(x *api.Intent) { x.Token = 4 }),
		with(good(), func(x *api.Intent) { x.Token = 255 }),
		with(good(), func(x *api.Intent) { x.Owner = 16 }),
		with(good(), func(x *api.Intent) { x.Owner = 255 }),
		with(good(), func(x *api.Intent) { x.Amount = api.Int{} }),
		{},
		{Index: math.MaxUint32, Token: 255, Owner: 255},
		{Index: math.MaxUint32, Token: 255, Owner: 255, Amount: amounts[9]},
	}
}

// P7.1: the number, as a constant that any kind of number takes.
func TestSize(t *testing.T) {
	const small uint8 = intent.Size
	if small != 38 {
		t.Error(small)
	}
}

// P7.1: each Token and each Owner.
func TestCheckEachTokenAndOwner(t *testing.T) {
	for token := range 256 {
		for owner := range 256 {
			x := api.Intent{Index: 9, Token: uint8(token), Owner: uint8(owner), Amount: api.Int{5}}
			want := api.OK
			if token >= 4 || owner >= 16 {
				want = api.ErrForm
			}
			if got := intent.Check(x); got != want {
				t.Errorf("Token %d, Owner %d: %d; want %d", token, owner, got, want)
			}
		}
	}
}

// P7.1: each bit of an Amount is enough, and none isn't.
func TestCheckEachBitOfAmount(t *testing.T) {
	for _, index := range indexes {
		if got := intent.Check(api.Intent{Index: index}); got != api.ErrForm {
			t.Errorf("Index %d, Amount 0: %d", index, got)
		}
		for bit := range 256 {
			x := api.Intent{Index: index}
			x.Amount[bit/64] = 1 << (bit % 64)
			if got := intent.Check(x); got != api.OK {
				t.Errorf("Index %d, Amount 2^%d: %d", index, bit, got)
			}
		}
	}
}

// P7.1: the chapter's example, and others written out.
func TestBytesWrittenOut(t *testing.T) {
	nought, full := make([]byte, 32), bytes.Repeat([]byte{255}, 32)
	for _, c := range []struct {
		x    api.Intent
		head []byte
		tail []byte
	}{
		{api.Intent{Index: 1, Token: 2, Owner: 3, Amount: api.Int{4}}, []byte{0, 0, 0, 1, 2, 3}, append(nought[:31:31], 4)},
		{api.Intent{}, make([]byte, 6), nought},
		{api.Intent{Index: math.MaxUint32, Token: 255, Owner: 254, Amount: amounts[9]}, []byte{255, 255, 255, 255, 255, 254}, full},
		{api.Intent{Index: 0x01020304, Token: 0, Owner: 15, Amount: api.Int{0, 0, 0, 1 << 63}}, []byte{1, 2, 3, 4, 0, 15}, append([]byte{128}, nought[:31]...)},
		{api.Intent{Index: 258, Token: 3, Owner: 0, Amount: api.Int{0, 1}}, []byte{0, 0, 1, 2, 3, 0}, append(append(nought[:23:23], 1), nought[:8]...)},
	} {
		want := append(c.head, c.tail...)
		if got := intent.Bytes(c.x); !bytes.Equal(got, want) {
			t.Errorf("%v: %v; want %v", c.x, got, want)
		}
	}
}

// P7.1, P7.2: of any intent its bytes and sums; it is read from its bytes, if it may be, and else isn't.
func TestAnyIntent(t *testing.T) {
	for _, x := range intents() {
		b := intent.Bytes(x)
		if !bytes.Equal(b, wantBytes(x)) || len(b) != intent.Size {
			t.Fatalf("Bytes of %v: %v", x, b)
		}
		if intent.ID(x) != wantSum(3, x) || intent.Leaf(x) != wantSum(0, x) {
			t.Fatalf("%v: ID %x, Leaf %x", x, intent.ID(x), intent.Leaf(x))
		}
		wantX, wantE := x, api.OK
		if !mayBe(x) {
			wantX, wantE = api.Intent{}, api.ErrForm
		}
		if e := intent.Check(x); e != wantE {
			t.Fatalf("Check of %v: %d; want %d", x, e, wantE)
		}
		if y, e := intent.Read(b); y != wantX || e != wantE {
			t.Fatalf("Read of %v: %v, %d; want %v, %d", x, y, e, wantX, wantE)
		}
		r := pack.Of(b)
		if y := intent.Get(r); y != wantX || r.Err() != wantE || r.End() != wantE || r.Left() != 0 {
			t.Fatalf("Get of %v: %v, %d, %d left", x, y, r.Err(), r.Left())
		}
	}
}

// P7.1: sums written out, so that they never change.
func TestKnownSums(t *testing.T) {
	for _, c := range []struct {
		x        api.Intent
		id, leaf string
	}{
		{api.Intent{}, "6ac06072c3cebe7515e56ffb0dd31c5b0d457cb2c9cdc03a364241890cd603c0", "11d9383b718e41c23095db3cb9e49bbb4d046524936df0f646539f755bfc79bf"},
		{api.Intent{Index: 1, Token: 2, Owner: 3, Amount: api.Int{4}}, "1af97d4a8a1c7e897e170ad3dfb5fc62811f1abd0e9c1722cc927ddd720cb826", "facc9fb68052a99920816f14d90c39b0bb8395e87bd0f3db638443e331f4df62"},
		{api.Intent{Index: math.MaxUint32, Token: 255, Owner: 255, Amount: amounts[9]}, "85e24d964b30a66dc2ca70970843510de9071cc371a0c8ab8dce0efb2c2855c3", "3fb41ffd75014ff6bd1f40e8794e302215be3beaed35380f3554d545b19f8347"},
	} {
		id, leaf := intent.ID(c.x), intent.Leaf(c.x)
		if hex.EncodeToString(id[:]) != c.id || hex.EncodeToString(leaf[:]) != c.leaf {
			t.Errorf("%v: ID %x, Leaf %x", c.x, id, leaf)
		}
	}
}

// P7.1, P7.2: unlike intents have unlike bytes, ids and leaves, and no id is a leaf.
func TestUnlikeIntents(t *testing.T) {
	texts, sums := map[string]int{}, map[api.Hash]int{}
	l := intents()
	for i, x := range l {
		texts[string(intent.Bytes(x))] = i
		sums[intent.ID(x)] = i
		sums[intent.Leaf(x)] = i
	}
	if len(texts) != len(l) || len(sums) != 2*len(l) {
		t.Errorf("%d texts and %d sums of %d intents", len(texts), len(sums), len(l))
	}
}

// P7.1: one is written behind what is there, whatever it is, and others behind it.
func TestPut(t *testing.T) {
	var w pack.Writer
	var want []byte
	for i, x := range append(bads(), good()) {
		w.U8(uint8(i))
		intent.Put(&w, x)
		intent.Put(&w, good())
		w.U32(7)
		want = append(append(want, byte(i)), wantBytes(x)...)
		want = append(append(want, wantBytes(good())...), 0, 0, 0, 7)
		if got := w.Bytes(); !bytes.Equal(got, want) {
			t.Fatalf("behind %v: %v; want %v", x, got, want)
		}
	}
}

// P7.1: one behind the other, between other things.
func TestGetInARow(t *testing.T) {
	var w pack.Writer
	other := api.Intent{Index: 5, Token: 0, Owner: 15, Amount: api.Int{0, 0, 1}}
	w.U8(9)
	intent.Put(&w, good())
	intent.Put(&w, other)
	w.U8(8)
	intent.Put(&w, good())
	r := pack.Of(w.Bytes())
	if r.U8() != 9 || intent.Get(r) != good() || r.Left() != 1+2*intent.Size || r.Err() != api.OK {
		t.Fatalf("the first: %d left, %d", r.Left(), r.Err())
	}
	if intent.Get(r) != other || r.U8() != 8 || r.End() != api.ErrLong || intent.Get(r) != good() || r.End() != api.OK {
		t.Fatalf("the others: %d left, %d", r.Left(), r.Err())
	}
	if x := intent.Get(r); x != (api.Intent{}) || r.Err() != api.ErrShort {
		t.Errorf("beyond the end: %v, %d", x, r.Err())
	}
}

// gone: is this the reader's error, with nothing left, and is an intent that is read of it zero?
func gone(r *pack.Reader, e api.Errno) bool {
	return r.Left() == 0 && intent.Get(r) == api.Intent{} && r.Err() == e && r.End() == e && r.U8() == 0
}

// P7.1, R3: bytes are wanting, from all of them to one; what stands in the others isn't told, and wrong parts neither.
func TestShort(t *testing.T) {
	for _, x := range append(bads(), good()) {
		for n := range intent.Size {
			b := wantBytes(x)[:n]
			if y, e := intent.Read(b); y != (api.Intent{}) || e != api.ErrShort {
				t.Errorf("Read of %v: %v, %d", b, y, e)
			}
			r := pack.Of(b)
			if y := intent.Get(r); y != (api.Intent{}) || !gone(r, api.ErrShort) {
				t.Errorf("Get of %v: %v, %d, %d left", b, y, r.Err(), r.Left())
			}
		}
	}
	if y, e := intent.Read([]byte{}); y != (api.Intent{}) || e != api.ErrShort {
		t.Errorf("Read of no bytes: %v, %d", y, e)
	}
}

// P7.1, R2: what may not be is told ahead of bytes that are left, and nothing is left then.
func TestForm(t *testing.T) {
	for _, x := range bads() {
		for _, more := range [][]byte{nil, {0}, wantBytes(good())} {
			b := append(wantBytes(x), more...)
			if y, e := intent.Read(b); y != (api.Intent{}) || e != api.ErrForm {
				t.Errorf("Read of %v: %v, %d", b, y, e)
			}
			r := pack.Of(b)
			if y := intent.Get(r); y != (api.Intent{}) || !gone(r, api.ErrForm) {
				t.Errorf("Get of %v: %v, %d, %d left", b, y, r.Err(), r.Left())
			}
		}
	}
}

// P7.1, R3: more bytes, from one to a whole intent and beyond; Get leaves them.
func TestLong(t *testing.T) {
	for n := 1; n <= 3*intent.Size; n++ {
		for _, fill := range []byte{0, 1, 255} {
			b := append(wantBytes(good()), bytes.Repeat([]byte{fill}, n)...)
			if y, e := intent.Read(b); y != (api.Intent{}) || e != api.ErrLong {
				t.Errorf("Read of %d more: %v, %d", n, y, e)
			}
			r := pack.Of(b)
			if y := intent.Get(r); y != good() || r.Left() != n || r.Err() != api.OK || r.End() != api.ErrLong || r.U8() != fill {
				t.Errorf("Get of %d more: %v, %d left, %d", n, y, r.Left(), r.Err())
			}
		}
	}
}

// P7.1: an error that the reader had stays, whichever it is.
func TestGetOfAFailedReader(t *testing.T) {
	for _, e := range []api.Errno{api.ErrArg, api.ErrShort, api.ErrLong, api.ErrForm, api.ErrSyntax, 18, -1, math.MaxInt, math.MinInt} {
		for _, b := range [][]byte{nil, wantBytes(good()), wantBytes(bads()[0])} {
			r := pack.Of(b)
			r.Fail(e)
			if y := intent.Get(r); y != (api.Intent{}) || !gone(r, e) {
				t.Errorf("error %d: %v, %d, %d left", e, y, r.Err(), r.Left())
			}
		}
	}
	r := pack.Of(wantBytes(good()))
	r.Fail(api.OK)
	if y := intent.Get(r); y != good() || r.End() != api.OK {
		t.Errorf("no error: %v, %d", y, r.End())
	}
}

// fromBytes: what stands in 38 bytes, by another way.
func fromBytes(b []byte) api.Intent {
	x := api.Intent{Index: binary.BigEndian.Uint32(b), Token: b[4], Owner: b[5]}
	for i := range x.Amount {
		x.Amount[i] = binary.BigEndian.Uint64(b[30-8*i:])
	}
	return x
}

// P7.2: each change of one byte is another intent, or none, and what is read has just these bytes.
func TestEachByteTells(t *testing.T) {
	for at := range intent.Size {
		for v := range 256 {
			b := wantBytes(good())
			same := b[at] == byte(v)
			b[at] = byte(v)
			x, e := intent.Read(b)
			if want := fromBytes(b); mayBe(want) && (x != want || e != api.OK || !bytes.Equal(intent.Bytes(x), b)) {
				t.Errorf("byte %d is %d: %v, %d", at, v, x, e)
			} else if !mayBe(want) && (x != api.Intent{} || e != api.ErrForm) {
				t.Errorf("byte %d is %d: %v, %d; it may not be", at, v, x, e)
			}
			if (x == good()) != same {
				t.Errorf("byte %d is %d: the same one %v", at, v, x == good())
			}
		}
	}
}

// P7.2: bytes without a pattern, of any length.
func TestAnyBytes(t *testing.T) {
	source := rand.New(rand.NewSource(7))
	for range 20000 {
		b := make([]byte, source.Intn(2)*intent.Size+source.Intn(2)*source.Intn(2*intent.Size))
		source.Read(b)
		if len(b) > 5 && source.Intn(4) > 0 {
			b[4] %= 5
			b[5] %= 17
		}
		x, e := intent.Read(b)
		want, wantE := api.Intent{}, api.OK
		switch {
		case len(b) < 38:
			wantE = api.ErrShort
		case !mayBe(fromBytes(b)):
			wantE = api.ErrForm
		case len(b) > 38:
			wantE = api.ErrLong
		default:
			want = fromBytes(b)
		}
		if x != want || e != wantE {
			t.Fatalf("%v: %v, %d; want %v, %d", b, x, e, want, wantE)
		}
	}
}

// R4: bytes that are handed in, and their spare room, stay as they are; answers are apart from each other.
func TestMemory(t *testing.T) {
	room := append(wantBytes(good()), wantBytes(good())...)
	was := bytes.Clone(room)
	r := pack.Of(room[:38])
	intent.Read(room[:38])
	intent.Read(room[:20])
	intent.Read(room)
	if !bytes.Equal(room, was) {
		t.Fatal("the bytes are changed")
	}
	clear(room)
	if intent.Get(r) != good() {
		t.Error("the bytes are kept")
	}
	first, second := intent.Bytes(good()), intent.Bytes(good())
	clear(first[:cap(first)])
	if !bytes.Equal(second, wantBytes(good())) || !bytes.Equal(intent.Bytes(good()), second) {
		t.Error("an answer that changes, changes others")
	}
}

// R5: an answer hangs on its arguments alone.
func TestSameAgain(t *testing.T) {
	id, leaf := intent.ID(good()), intent.Leaf(good())
	for _, x := range bads() {
		intent.Read(intent.Bytes(x))
		intent.ID(x)
		intent.Leaf(x)
	}
	x, e := intent.Read(intent.Bytes(good()))
	if x != good() || e != api.OK || intent.ID(x) != id || intent.Leaf(x) != leaf || intent.Check(x) != api.OK {
		t.Error("it was another one before")
	}
}
