package event_test

import (
	"bytes"
	"encoding/binary"
	"math"
	"math/big"
	"math/rand"
	"slices"
	"testing"

	"sponsion/api"
	"sponsion/event"
)

const top = 1<<64 - 1

// kinds: the chapter's list, written out once more.
var kinds = []uint8{
	event.Minted, event.Moved, event.Deposited, event.Burned, event.Posted, event.Reverted, event.Finalized,
	event.Ticketed, event.Filled, event.Claimed, event.Disputed, event.Reimbursed, event.Executed, event.Redeemed,
	event.Slashed, event.Returned, event.Dropped, event.Joined, event.Left,
}

// Where an event's parts begin in its bytes.
const (
	atKind   = 0
	atBlock  = 1
	atID     = 9
	atSide   = 41
	atToken  = 42
	atFrom   = 43
	atTo     = 44
	atAmount = 45
	atFee    = 77
	atBatch  = 109
	size     = 113
)

func putNumber(b []byte, a api.Int) []byte {
	for i := 3; i >= 0; i-- {
		b = binary.BigEndian.AppendUint64(b, a[i])
	}
	return b
}

// wantBytes: a row's bytes, by another way, whether its events may be or not.
func wantBytes(l ...event.Event) []byte {
	var b []byte
	for _, x := range l {
		b = binary.BigEndian.AppendUint64(append(b, x.Kind), x.Block)
		b = append(append(b, x.ID[:]...), x.Side, x.Token, x.From, x.To)
		b = binary.BigEndian.AppendUint32(putNumber(putNumber(b, x.Amount), x.Fee), x.Batch)
	}
	return b
}

// sum: 32 bytes, none of them like another one.
func sum(first byte) api.Hash {
	var h api.Hash
	for i := range h {
		h[i] = first + byte(i)
	}
	return h
}

// all: each part is there, unlike the others, none of them zero, and each may be.
func all() event.Event {
	return event.Event{
		Kind: event.Executed, Block: 0xb1b2b3b4b5, ID: sum(0x40), Side: 1, Token: 2, From: 13, To: 3,
		Amount: api.Int{0x191a1b1c1d1e1f20, 0x1112131415161718, 0x090a0b0c0d0e0f10, 0x0102030405060708},
		Fee:    api.Int{0x797a7b7c7d7e7f80, 0x7172737475767778, 0x696a6b6c6d6e6f70, 0x6162636465666768},
		Batch:  0x91929394,
	}
}

// full: each part is at the upper end of what may be.
func full() event.Event {
	return event.Event{
		Kind: 18, Block: 1 << 40, ID: api.Hash(bytes.Repeat([]byte{255}, 32)), Side: 1, Token: 3, From: 15, To: 15,
		Amount: api.Int{top, top, top, top}, Fee: api.Int{top, top, top, top}, Batch: math.MaxUint32,
	}
}

// with: the same one but for a part.
func with(x event.Event, change func(x *event.Event)) event.Event {
	change(&x)
	return x
}

// goods: of each kind events that may be.
func goods() []event.Event {
	var l []event.Event
	for _, kind := range kinds {
		for _, x := range []event.Event{{}, all(), full()} {
			x.Kind = kind
			l = append(l, x)
		}
	}
	return l
}

// holds: all of the row may be, and it is told by its bytes.
func holds(t *testing.T, l ...event.Event) {
	t.Helper()
	for _, x := range l {
		if e := event.Check(x); e != api.OK {
			t.Errorf("Check(%+v): %d", x, e)
		}
	}
	b, e := event.Bytes(l...)
	if want := wantBytes(l...); e != api.OK || !bytes.Equal(b, want) {
		t.Errorf("Bytes(%+v): %v, %d; want %v", l, b, e, want)
	}
	if m, e := event.Read(b); e != api.OK || !slices.Equal(m, l) {
		t.Errorf("Read(%v): %+v, %d; want %+v", b, m, e, l)
	}
}

// refused: x may not be, wherever it stands in a row.
func refused(t *testing.T, what string, x event.Event) {
	t.Helper()
	if e := event.Check(x); e != api.ErrForm {
		t.Errorf("%s: Check: %d", what, e)
	}
	for _, l := range [][]event.Event{{x}, {x, all()}, {all(), x}, {all(), x, full()}} {
		if b, e := event.Bytes(l...); e != api.ErrForm || len(b) != 0 {
			t.Errorf("%s: Bytes of %d: %v, %d", what, len(l), b, e)
		}
		unread(t, what, wantBytes(l...), api.ErrForm)
	}
}

// unread: Read tells that error and nothing else.
func unread(t *testing.T, what string, b []byte, want api.Errno) {
	t.Helper()
	if l, e := event.Read(b); e != want || len(l) != 0 {
		t.Errorf("%s: Read of %d bytes: %+v, %d; want %d", what, len(b), l, e, want)
	}
}

// P9.1: the kinds' numbers, how many there are, and how many bytes an event has.
func TestKinds(t *testing.T) {
	var number int = event.Kinds
	if number != 19 || len(kinds) != number || event.Size != size {
		t.Error(number, event.Size)
	}
	for i, kind := range kinds {
		if int(kind) != i {
			t.Errorf("kind %d is %d", i, kind)
		}
	}
}

// The chapter's example, and bytes written out by hand.
func TestKnownBytes(t *testing.T) {
	if b, e := event.Bytes(all(), full()); e != api.OK || len(b) != 226 {
		t.Errorf("a row of two: %d bytes, %d", len(b), e)
	}
	nought := make([]byte, size)
	if b, e := event.Bytes(event.Event{}); e != api.OK || !bytes.Equal(b, nought) {
		t.Errorf("of nought: %v, %d", b, e)
	}
	x := event.Event{
		Kind: event.Claimed, Block: 258, ID: api.Hash{7, 31: 9}, Side: 1, Token: 2, From: 3, To: 4,
		Amount: api.Int{5, 0, 0, 6 << 56}, Fee: api.Int{8, 0, 0, 10 << 56}, Batch: 0x0b0c0d0e,
	}
	want := make([]byte, size)
	want[atKind], want[atBlock+6], want[atBlock+7] = 9, 1, 2
	want[atID], want[atID+31] = 7, 9
	want[atSide], want[atToken], want[atFrom], want[atTo] = 1, 2, 3, 4
	want[atAmount], want[atAmount+31], want[atFee], want[atFee+31] = 6, 5, 10, 8
	copy(want[atBatch:], []byte{11, 12, 13, 14})
	if b, e := event.Bytes(x); e != api.OK || !bytes.Equal(b, want) {
		t.Errorf("%+v: %v, %d; want %v", x, b, e, want)
	}
	if l, e := event.Read(want); e != api.OK || !slices.Equal(l, []event.Event{x}) {
		t.Errorf("%v: %+v, %d; want %+v", want, l, e, x)
	}
}

// P9.1, P9.2: each kind, with all its parts and at both ends of them; rows of any length, in their order.
func TestMayBe(t *testing.T) {
	l := goods()
	for i, x := range l {
		holds(t, x)
		holds(t, l[:i]...)
		holds(t, x, x, all(), x)
	}
	slices.Reverse(l)
	holds(t, l...)
	holds(t, slices.Repeat(l, 20)...)
}

// P9.1: a row of none.
func TestNoRow(t *testing.T) {
	for _, l := range [][]event.Event{nil, {}} {
		if b, e := event.Bytes(l...); len(b) != 0 || e != api.OK {
			t.Errorf("Bytes: %v, %d", b, e)
		}
	}
	for _, b := range [][]byte{nil, {}} {
		if l, e := event.Read(b); len(l) != 0 || e != api.OK {
			t.Errorf("Read: %v, %d", l, e)
		}
	}
}

// byteParts: the parts of one byte, where they stand, how many values may be, and how they are set.
var byteParts = []struct {
	name  string
	at    int
	limit int
	set   func(x *event.Event, value uint8)
}{
	{"Kind", atKind, 19, func(x *event.Event, value uint8) { x.Kind = value }},
	{"Side", atSide, 2, func(x *event.Event, value uint8) { x.Side = value }},
	{"Token", atToken, 4, func(x *event.Event, value uint8) { x.Token = value }},
	{"From", atFrom, 16, func(x *event.Event, value uint8) { x.From = value }},
	{"To", atTo, 16, func(x *event.Event, value uint8) { x.To = value }},
}

// P9.1: each value of each part of one byte, in events of all kinds.
func TestEachValue(t *testing.T) {
	for _, p := range byteParts {
		for value := range 256 {
			for _, good := range goods() {
				x := with(good, func(x *event.Event) { p.set(x, uint8(value)) })
				if value < p.limit {
					holds(t, x)
				} else {
					refused(t, p.name, x)
				}
			}
		}
	}
}

// P9.1: a Block up to MaxBlock.
func TestBlock(t *testing.T) {
	for _, good := range goods() {
		for _, block := range []uint64{0, 1, 255, 1 << 32, 1<<40 - 1, 1 << 40} {
			holds(t, with(good, func(x *event.Event) { x.Block = block }))
		}
		for _, block := range []uint64{1<<40 + 1, 1<<40 + 255, 1 << 41, 1<<63 - 1, 1 << 63, top} {
			refused(t, "Block", with(good, func(x *event.Event) { x.Block = block }))
		}
	}
}

// P9.1: an ID, an Amount, a Fee or a Batch may be anything, whatever the kind.
func TestMayBeAnything(t *testing.T) {
	for _, good := range goods() {
		for _, a := range []api.Int{{}, {1}, {0, 1}, {0, 0, 1}, {0, 0, 0, 1}, {0, 0, 0, 1 << 63}, {top, top, top, top}} {
			holds(t, with(good, func(x *event.Event) { x.Amount = a }))
			holds(t, with(good, func(x *event.Event) { x.Fee = a }))
		}
		for _, batch := range []uint32{0, 1, 255, 1 << 16, math.MaxUint32} {
			holds(t, with(good, func(x *event.Event) { x.Batch = batch }))
		}
		for _, id := range []api.Hash{{}, {1}, {31: 1}, sum(0), sum(200)} {
			holds(t, with(good, func(x *event.Event) { x.ID = id }))
		}
	}
}

// P9.1: each length of a row of three that isn't one of a whole row.
func TestWantingBytes(t *testing.T) {
	b := wantBytes(all(), full(), event.Event{})
	for n := range len(b) {
		if n%size != 0 {
			unread(t, "cut", b[:n], api.ErrShort)
		} else if l, e := event.Read(b[:n]); e != api.OK || len(l) != n/size {
			t.Errorf("of %d bytes: %+v, %d", n, l, e)
		}
		if n > 0 && n < size {
			unread(t, "further", append(bytes.Clone(b), b[:n]...), api.ErrShort)
		}
	}
}

// spoils: bytes of one event, changed such that it may not be.
var spoils = []struct {
	name string
	at   int
	to   byte
}{
	{"Kind", atKind, 19}, {"Block", atBlock, 1}, {"Block", atBlock + 2, 2}, {"Block", atBlock + 7, 1},
	{"Side", atSide, 2}, {"Token", atToken, 4}, {"From", atFrom, 16}, {"To", atTo, 16},
}

// P9.1: of one event wanting bytes are told first, of several the first event that has an error.
func TestLeftFirst(t *testing.T) {
	good := wantBytes(full())
	for _, s := range spoils {
		bad := bytes.Clone(good)
		bad[s.at] = s.to
		unread(t, s.name, bad, api.ErrForm)
		for n := 1; n < size; n++ {
			unread(t, s.name+", cut", bad[:n], api.ErrShort)
			unread(t, s.name+", cut, behind a good one", append(bytes.Clone(good), bad[:n]...), api.ErrShort)
			unread(t, s.name+", cut, behind a bad one", append(bytes.Clone(bad), bad[:n]...), api.ErrForm)
			unread(t, s.name+", ahead of a cut one", append(bytes.Clone(bad), good[:n]...), api.ErrForm)
			unread(t, s.name+", between", slices.Concat(good, bad, good[:n]), api.ErrForm)
		}
	}
}

// wantOf: by another way.
func wantOf(l []event.Event, id api.Hash, kinds []uint8) []event.Event {
	var some []event.Event
	for _, x := range l {
		if bytes.Equal(x.ID[:], id[:]) && slices.Contains(kinds, x.Kind) {
			some = append(some, x)
		}
	}
	return some
}

// P9.1: those with both, an ID and a kind, in order, each as often as it stands in the row.
func TestOf(t *testing.T) {
	a, b := sum(1), sum(2)
	at := func(kind uint8, id api.Hash, block uint64) event.Event {
		return event.Event{Kind: kind, ID: id, Block: block}
	}
	l := []event.Event{
		at(event.Left, a, 9), at(event.Filled, b, 8), at(event.Filled, a, 7), at(event.Minted, a, 6),
		at(event.Filled, a, 7), at(event.Claimed, a, 5), at(event.Left, b, 4), at(event.Filled, a, 3),
	}
	for _, x := range []struct {
		id    api.Hash
		kinds []uint8
		want  []event.Event
	}{
		{a, []uint8{event.Filled}, []event.Event{l[2], l[4], l[7]}},
		{b, []uint8{event.Filled}, []event.Event{l[1]}},
		{a, []uint8{event.Minted}, []event.Event{l[3]}},
		{a, []uint8{event.Left}, []event.Event{l[0]}},
		{a, []uint8{event.Claimed, event.Left}, []event.Event{l[0], l[5]}},
		{a, []uint8{event.Filled, event.Filled, event.Left, event.Filled}, []event.Event{l[0], l[2], l[4], l[7]}},
		{b, kinds, []event.Event{l[1], l[6]}},
		{a, []uint8{event.Moved, event.Dropped}, nil},
		{a, []uint8{19, 255, 19 + 8, 8 + 128, 8 + 64}, nil},
		{a, nil, nil},
		{a, []uint8{}, nil},
		{api.Hash{}, kinds, nil},
	} {
		if got := event.Of(l, x.id, x.kinds...); !slices.Equal(got, x.want) {
			t.Errorf("%v: %+v; want %+v", x.kinds, got, x.want)
		}
	}
	if got := event.Of(nil, a, kinds...); len(got) != 0 {
		t.Errorf("of no row: %+v", got)
	}
	if got := event.Of([]event.Event{}, api.Hash{}, event.Minted); len(got) != 0 {
		t.Errorf("of an empty row: %+v", got)
	}
}

// P9.1: each byte of the ID counts, and nothing else of an event but its kind.
func TestOfEachByte(t *testing.T) {
	id := sum(9)
	for i := range id {
		other := id
		other[i] ^= 1
		l := []event.Event{{ID: other}, {ID: id}}
		if got := event.Of(l, id, event.Minted); !slices.Equal(got, l[1:]) {
			t.Errorf("byte %d: %+v", i, got)
		}
	}
	l := goods()
	for i := range l {
		l[i].ID = id
	}
	if got := event.Of(l, id, kinds...); !slices.Equal(got, l) {
		t.Errorf("of all: %d of %d", len(got), len(l))
	}
}

// R1: picked by ID and kind alone, whether an event may be or not.
func TestOfAnyEvents(t *testing.T) {
	source := rand.New(rand.NewSource(9))
	for range 2000 {
		l := make([]event.Event, source.Intn(40))
		for i := range l {
			l[i] = event.Event{Kind: uint8(source.Intn(6) * 51), ID: api.Hash{31: byte(source.Intn(3))}, Block: source.Uint64(), Side: uint8(source.Intn(256)), From: uint8(source.Intn(256))}
		}
		some := make([]uint8, source.Intn(4))
		for i := range some {
			some[i] = uint8(source.Intn(6) * 51)
		}
		id := api.Hash{31: byte(source.Intn(3))}
		if got, want := event.Of(l, id, some...), wantOf(l, id, some); !slices.Equal(got, want) {
			t.Errorf("%+v, %v, %v: %+v; want %+v", l, id, some, got, want)
		}
	}
}

// value: a number as a big one.
func value(a api.Int) *big.Int { return new(big.Int).SetBytes(putNumber(nil, a)) }

// totals: Total tells the sum of these Amounts, or that it is too great.
func totals(t *testing.T, amounts ...api.Int) {
	t.Helper()
	want := new(big.Int)
	var l []event.Event
	for i, a := range amounts {
		// What isn't an Amount counts for nothing.
		l = append(l, with(all(), func(x *event.Event) { x.Amount, x.Kind, x.Fee = a, uint8(i%19), api.Int{top, top, top, top} }))
		want.Add(want, value(a))
	}
	got, e := event.Total(l...)
	if want.BitLen() > 256 {
		if e != api.ErrOverflow || got != (api.Int{}) {
			t.Errorf("Total of %v: %v, %d; want ErrOverflow", amounts, got, e)
		}
		return
	}
	if e != api.OK || value(got).Cmp(want) != 0 {
		t.Errorf("Total of %v: %v, %d; want %v", amounts, got, e, want)
	}
}

// P9.1: of none, of some, and up to the end of the numbers and beyond it.
func TestTotal(t *testing.T) {
	most := api.Int{top, top, top, top}
	half := api.Int{0, 0, 0, 1 << 63}
	totals(t)
	totals(t, api.Int{})
	totals(t, api.Int{5})
	totals(t, api.Int{5}, api.Int{6}, api.Int{}, api.Int{7})
	totals(t, api.Int{1, 2, 3, 4}, api.Int{10, 20, 30, 40})
	totals(t, api.Int{top}, api.Int{1})
	totals(t, api.Int{top, top}, api.Int{1})
	totals(t, api.Int{top, top, top}, api.Int{1})
	totals(t, most)
	totals(t, most, api.Int{})
	totals(t, api.Int{}, api.Int{}, most)
	totals(t, most, api.Int{1})
	totals(t, api.Int{1}, most)
	totals(t, api.Int{1}, api.Int{}, most, api.Int{})
	totals(t, half, half)
	totals(t, half, api.Int{top, top, top, 1<<63 - 1})
	totals(t, half, api.Int{top, top, top, 1<<63 - 1}, api.Int{1})
	// Twice beyond the end, so that nothing of it is left.
	totals(t, half, half, half, half)
	totals(t, slices.Repeat([]api.Int{{top, 3}}, 500)...)
	totals(t, slices.Repeat([]api.Int{{0, 0, 0, 1 << 56}}, 255)...)
	totals(t, slices.Repeat([]api.Int{{0, 0, 0, 1 << 56}}, 256)...)
	if got, e := event.Total([]event.Event{}...); e != api.OK || got != (api.Int{}) {
		t.Errorf("of an empty row: %v, %d", got, e)
	}
}

// R1: any Amounts, of events that may not be, too.
func TestTotalOfAnyEvents(t *testing.T) {
	source := rand.New(rand.NewSource(99))
	for range 2000 {
		amounts := make([]api.Int, source.Intn(6))
		for i := range amounts {
			amounts[i] = api.Int{source.Uint64(), source.Uint64(), source.Uint64(), source.Uint64() >> source.Intn(5)}
		}
		totals(t, amounts...)
	}
	x := event.Event{Kind: 255, Block: top, Side: 9, Token: 9, From: 99, To: 99, Amount: api.Int{4}}
	if got, e := event.Total(x, x); e != api.OK || got != (api.Int{8}) {
		t.Errorf("of what may not be: %v, %d", got, e)
	}
}

// isTold: a row that was read from b has b as its bytes; an error leaves nothing.
func isTold(t *testing.T, b []byte, l []event.Event, e api.Errno) {
	t.Helper()
	if e != api.OK {
		if len(l) != 0 {
			t.Errorf("%v: %+v beside %d", b, l, e)
		}
		return
	}
	if again, e := event.Bytes(l...); e != api.OK || !bytes.Equal(again, b) {
		t.Errorf("%v: its row has the bytes %v, %d", b, again, e)
	}
}

// P9.2: each change of one byte is another row, or none.
func TestEachByteCounts(t *testing.T) {
	l := []event.Event{all(), {}}
	b := wantBytes(l...)
	for i := range b {
		for x := range 256 {
			changed := bytes.Clone(b)
			if changed[i] = byte(x); changed[i] == b[i] {
				continue
			}
			m, e := event.Read(changed)
			if e == api.OK && slices.Equal(m, l) {
				t.Errorf("byte %d: the same row", i)
			}
			isTold(t, changed, m, e)
		}
	}
}

// P9.2: any bytes, most of them near those of a row.
func TestAnyBytes(t *testing.T) {
	source := rand.New(rand.NewSource(10))
	done := map[api.Errno]int{}
	for range 20000 {
		b := make([]byte, source.Intn(4)*size+source.Intn(2)*source.Intn(size))
		source.Read(b)
		for at := 0; at+size <= len(b); at += size {
			if source.Intn(4) == 0 {
				continue
			}
			clear(b[at+atBlock : at+atBlock+3])
			for _, p := range byteParts {
				b[at+p.at] %= byte(p.limit)
			}
		}
		l, e := event.Read(b)
		done[e]++
		isTold(t, b, l, e)
		if again, e2 := event.Read(b); !slices.Equal(again, l) || e2 != e {
			t.Errorf("%v: %+v, %d; and then %+v, %d", b, l, e, again, e2)
		}
	}
	if len(done) != 3 || done[api.OK] == 0 || done[api.ErrShort] == 0 || done[api.ErrForm] == 0 {
		t.Error(done)
	}
}

// P9.2: events are compared as they stand; unlike ones have unlike bytes.
func TestUnlike(t *testing.T) {
	seen := map[event.Event]string{}
	told := map[string]bool{}
	for _, x := range goods() {
		b, _ := event.Bytes(x)
		if old, ok := seen[x]; ok != told[string(b)] || ok && old != string(b) {
			t.Errorf("%+v: %v", x, b)
		}
		seen[x], told[string(b)] = string(b), true
	}
	if len(seen) != 3*len(kinds) {
		t.Error(len(seen))
	}
}

// P9.2, R4: bytes are neither changed nor kept, their spare room neither; what is told is new.
func TestMemoryOfBytes(t *testing.T) {
	l := goods()
	want := wantBytes(l...)
	first, _ := event.Bytes(l...)
	for i := range first {
		first[i] ^= 255
	}
	_ = append(first[:0], make([]byte, cap(first))...)
	if b, e := event.Bytes(l...); e != api.OK || !bytes.Equal(b, want) {
		t.Errorf("Bytes: %d, other ones after a change of the first ones", e)
	}
	if !slices.Equal(l, goods()) {
		t.Error("Bytes: the row has changed")
	}
	room := append(bytes.Clone(want), 1, 2, 3, 4)
	whole := bytes.Clone(room)
	m, e := event.Read(room[:len(want)])
	if e != api.OK || !bytes.Equal(room, whole) {
		t.Errorf("Read: %d, or the bytes have changed", e)
	}
	for i := range room {
		room[i] = 99
	}
	if !slices.Equal(m, l) {
		t.Error("Read: the row has changed with its bytes")
	}
}

// P9.2, R4: rows and kinds are neither changed nor kept, their spare room neither; what is picked is new, though all is picked.
func TestMemoryOfRows(t *testing.T) {
	id := sum(9)
	room := slices.Repeat([]event.Event{{Kind: event.Moved, ID: id, Amount: api.Int{3}}}, 5)
	room[3].Kind, room[4].Batch = event.Left, 77
	some := []uint8{event.Left, event.Moved, event.Posted, 200}
	oldRoom, oldSome := slices.Clone(room), slices.Clone(some)
	unchanged := func(what string) {
		if !slices.Equal(room, oldRoom) || !slices.Equal(some, oldSome) {
			t.Errorf("%s: has changed what it was handed: %+v, %v", what, room, some)
		}
	}
	for n := range 5 {
		got := event.Of(room[:n], id, some[:2]...)
		unchanged("Of")
		for i := range got {
			got[i] = full()
		}
		_ = append(got, full(), full())
		unchanged("a change of what Of told")
	}
	got := event.Of(room, id, event.Moved)
	room[0], room[1] = full(), full()
	if !slices.Equal(got, []event.Event{oldRoom[0], oldRoom[1], oldRoom[2], oldRoom[4]}) {
		t.Errorf("Of: has changed with its row: %+v", got)
	}
	copy(room, oldRoom)
	if a, e := event.Total(room[:4]...); e != api.OK || a != (api.Int{12}) {
		t.Errorf("Total: %v, %d", a, e)
	}
	unchanged("Total")
}
