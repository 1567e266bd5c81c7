package call_test

import (
	"bytes"
	"encoding/binary"
	"math"
	"math/rand"
	"strings"
	"testing"

	"sponsion/api"
	"sponsion/call"
)

const top = 1<<64 - 1

// kind: a line of the chapter's table, written out once more, with the constant of its name.
type kind struct {
	number uint8
	is     uint8
	name   string
	signs  string
}

var kinds = []kind{
	{0, call.Mint, "mint", "tan"}, {1, call.Transfer, "transfer", "stan"}, {2, call.Deposit, "deposit", "tan"},
	{3, call.Burn, "burn", "tan"}, {4, call.Post, "post", ""}, {5, call.Ticket, "ticket", "ia"},
	{6, call.Fill, "fill", "in"}, {7, call.Claim, "claim", "i"}, {8, call.Dispute, "dispute", "ia"},
	{9, call.Resolve, "resolve", "ibp"}, {10, call.Refute, "refute", "ia"}, {11, call.Expose, "expose", "iaobp"},
	{12, call.Drop, "drop", "i"}, {13, call.Redeem, "redeem", "ibp"}, {14, call.Collect, "collect", "i"},
	{15, call.Join, "join", "tn"}, {16, call.Leave, "leave", "tn"},
}

// sizes: how many bytes a sign has.
var sizes = map[rune]int{'s': 1, 't': 1, 'a': 1, 'n': 32, 'i': 38, 'o': 38, 'b': 4, 'p': 1024}

func putNumber(b []byte, a api.Int) []byte {
	for i := 3; i >= 0; i-- {
		b = binary.BigEndian.AppendUint64(b, a[i])
	}
	return b
}

func putIntent(b []byte, x api.Intent) []byte {
	b = append(binary.BigEndian.AppendUint32(b, x.Index), x.Token, x.Owner)
	return putNumber(b, x.Amount)
}

// wantBytes: a call's bytes, by another way, whether it may be or not.
func wantBytes(c call.Call) []byte {
	b := binary.BigEndian.AppendUint64([]byte{c.Kind, c.From}, c.Nonce)
	for _, sign := range kinds[c.Kind].signs {
		switch sign {
		case 's':
			b = append(b, c.Side)
		case 't':
			b = append(b, c.Token)
		case 'a':
			b = append(b, c.To)
		case 'n':
			b = putNumber(b, c.Amount)
		case 'i':
			b = putIntent(b, c.Intent)
		case 'o':
			b = putIntent(b, c.Other)
		case 'b':
			b = binary.BigEndian.AppendUint32(b, c.Batch)
		case 'p':
			for _, h := range c.Proof {
				b = append(b, h[:]...)
			}
		}
	}
	return b
}

func someNumber() api.Int {
	return api.Int{0x191a1b1c1d1e1f20, 0x1112131415161718, 0x090a0b0c0d0e0f10, 0x0102030405060708}
}

func proof(first byte) [32]api.Hash {
	var p [32]api.Hash
	for i := range p {
		for j := range p[i] {
			p[i][j] = first + byte(i*37+j)
		}
	}
	return p
}

// all: each part is there, unlike the others, none of them zero, and each may be.
func all() call.Call {
	return call.Call{
		From: 13, Nonce: 0xa1a2a3a4a5a6a7a8, Side: 1, Token: 2, To: 3, Amount: someNumber(),
		Intent: api.Intent{Index: 0x80706050, Token: 1, Owner: 5, Amount: api.Int{4, 3, 2, 1}},
		Other:  api.Intent{Index: 0x40302010, Token: 3, Owner: 15, Amount: api.Int{top, 7, 0, 9}},
		Batch:  0x91929394, Proof: proof(1),
	}
}

// ends: calls whose parts are all at an end of what may be.
func ends() []call.Call {
	var full [32]api.Hash
	for i := range full {
		full[i] = api.Hash(bytes.Repeat([]byte{255}, 32))
	}
	return []call.Call{
		{Intent: api.Intent{Amount: api.Int{1}}, Other: api.Intent{Amount: api.Int{0, 0, 0, 1 << 63}}},
		{
			From: 15, Nonce: top, Side: 1, Token: 3, To: 15, Amount: api.Int{top, top, top, top},
			Intent: api.Intent{Index: math.MaxUint32, Token: 3, Owner: 15, Amount: api.Int{top, top, top, top}},
			Other:  api.Intent{Index: math.MaxUint32, Token: 3, Owner: 15, Amount: api.Int{top, top, top, top}},
			Batch:  math.MaxUint32, Proof: full,
		},
	}
}

// of: a call of that kind, with those of c's parts that belong to it.
func of(k kind, c call.Call) call.Call {
	d := call.Call{Kind: k.number, From: c.From, Nonce: c.Nonce}
	for _, sign := range k.signs {
		move[sign](&d, c)
	}
	return d
}

// move: the part of a sign, from one call to another one.
var move = map[rune]func(d *call.Call, c call.Call){
	's': func(d *call.Call, c call.Call) { d.Side = c.Side },
	't': func(d *call.Call, c call.Call) { d.Token = c.Token },
	'a': func(d *call.Call, c call.Call) { d.To = c.To },
	'n': func(d *call.Call, c call.Call) { d.Amount = c.Amount },
	'i': func(d *call.Call, c call.Call) { d.Intent = c.Intent },
	'o': func(d *call.Call, c call.Call) { d.Other = c.Other },
	'b': func(d *call.Call, c call.Call) { d.Batch = c.Batch },
	'p': func(d *call.Call, c call.Call) { d.Proof = c.Proof },
}

// goods: of each kind calls that may be.
func goods() []call.Call {
	var l []call.Call
	for _, k := range kinds {
		for _, c := range append(ends(), all()) {
			l = append(l, of(k, c))
		}
	}
	return l
}

// holds: c may be, and is told by its bytes.
func holds(t *testing.T, c call.Call) {
	t.Helper()
	if e := call.Check(c); e != api.OK {
		t.Errorf("Check(%+v): %d", c, e)
	}
	b, e := call.Bytes(c)
	if want := wantBytes(c); e != api.OK || !bytes.Equal(b, want) {
		t.Errorf("Bytes(%+v): %v, %d; want %v", c, b, e, want)
	}
	if d, e := call.Read(b); e != api.OK || d != c {
		t.Errorf("Read(%v): %+v, %d; want %+v", b, d, e, c)
	}
}

// refused: c may not be.
func refused(t *testing.T, what string, c call.Call) {
	t.Helper()
	if e := call.Check(c); e != api.ErrForm {
		t.Errorf("%s: Check: %d", what, e)
	}
	if b, e := call.Bytes(c); e != api.ErrForm || len(b) != 0 {
		t.Errorf("%s: Bytes: %v, %d", what, b, e)
	}
}

// unread: Read tells that error and nothing else.
func unread(t *testing.T, what string, b []byte, want api.Errno) {
	t.Helper()
	if c, e := call.Read(b); e != want || c != (call.Call{}) {
		t.Errorf("%s: Read(%v): %+v, %d; want %d", what, b, c, e, want)
	}
}

// P8.1: the numbers, the names and the signs of the table, and of nothing else.
func TestTable(t *testing.T) {
	var number int = call.Kinds
	if number != 17 || len(kinds) != number {
		t.Error(number)
	}
	for i, k := range kinds {
		if int(k.number) != i || k.is != k.number {
			t.Errorf("%s is %d; want %d", k.name, k.is, i)
		}
		if name, signs := call.Name(i), call.Signs(i); name != k.name || signs != k.signs {
			t.Errorf("%d: %q, %q; want %q, %q", i, name, signs, k.name, k.signs)
		}
		if got, ok := call.Kind(k.name); got != i || !ok {
			t.Errorf("Kind(%q): %d, %v", k.name, got, ok)
		}
	}
}

// P8.1: of no kind, of no name.
func TestNone(t *testing.T) {
	for _, i := range []int{-1, 17, 18, 255, 256, 256 + 1, -256, 1 << 32, math.MaxInt, math.MinInt, math.MinInt + 1} {
		if name, signs := call.Name(i), call.Signs(i); name != "" || signs != "" {
			t.Errorf("%d: %q, %q", i, name, signs)
		}
	}
	names := []string{"", " ", "mint ", " mint", "tan", "iaobp", "0", "none", "\x00", "\xff", strings.Repeat("mint", 9)}
	for _, k := range kinds {
		names = append(names, strings.ToUpper(k.name), strings.ToUpper(k.name[:1])+k.name[1:], k.name[1:], k.name[:len(k.name)-1], k.name+"\x00", k.name+"s")
	}
	for _, name := range names {
		if got, ok := call.Kind(name); got != 0 || ok {
			t.Errorf("Kind(%q): %d, %v", name, got, ok)
		}
	}
}

// The chapter's example, and bytes written out by hand.
func TestKnownBytes(t *testing.T) {
	for _, x := range []struct {
		c    call.Call
		want []byte
	}{
		{call.Call{Kind: call.Post, From: 1, Nonce: 2}, []byte{4, 1, 0, 0, 0, 0, 0, 0, 0, 2}},
		{call.Call{}, make([]byte, 44)},
		{call.Call{Kind: call.Transfer, From: 2, Nonce: 0x0102030405060708, Side: 1, Token: 3, To: 9, Amount: api.Int{258, 0, 0, 7 << 56}},
			append([]byte{1, 2, 1, 2, 3, 4, 5, 6, 7, 8, 1, 3, 9, 7}, append(make([]byte, 29), 1, 2)...)},
		{call.Call{Kind: call.Ticket, From: 15, Nonce: 1, To: 4, Intent: api.Intent{Index: 6, Token: 2, Owner: 8, Amount: api.Int{5}}},
			append(append([]byte{5, 15, 0, 0, 0, 0, 0, 0, 0, 1, 0, 0, 0, 6, 2, 8}, make([]byte, 31)...), 5, 4)},
	} {
		if b, e := call.Bytes(x.c); e != api.OK || !bytes.Equal(b, x.want) {
			t.Errorf("%+v: %v, %d; want %v", x.c, b, e, x.want)
		}
		if c, e := call.Read(x.want); e != api.OK || c != x.c {
			t.Errorf("%v: %+v, %d; want %+v", x.want, c, e, x.c)
		}
	}
}

// P8.1, P8.2: each kind, with all its parts and at both ends of them.
func TestMayBe(t *testing.T) {
	for _, c := range goods() {
		holds(t, c)
		size := 10
		for _, sign := range kinds[c.Kind].signs {
			size += sizes[sign]
		}
		if b, _ := call.Bytes(c); len(b) != size {
			t.Errorf("%s has %d bytes; want %d", kinds[c.Kind].name, len(b), size)
		}
	}
}

// P8.1: an Amount, a Nonce, a Batch or a Proof may be anything, nought too.
func TestMayBeAnything(t *testing.T) {
	for _, k := range kinds {
		c := of(k, all())
		holds(t, with(c, func(c *call.Call) { c.Amount, c.Nonce, c.Batch, c.Proof = api.Int{}, 0, 0, [32]api.Hash{} }))
	}
}

// with: the same one but for a part.
func with(c call.Call, change func(c *call.Call)) call.Call {
	change(&c)
	return c
}

// P8.1: each Kind and each From.
func TestEachKindAndAccount(t *testing.T) {
	for number := range 256 {
		for from := range 256 {
			c := call.Call{Kind: uint8(number), From: uint8(from)}
			if number < 17 {
				c = with(of(kinds[number], all()), func(c *call.Call) { c.From = uint8(from) })
			}
			if number < 17 && from < 16 {
				if e := call.Check(c); e != api.OK {
					t.Errorf("Kind %d, From %d: %d", number, from, e)
				}
			} else {
				refused(t, "Kind or From", c)
			}
		}
	}
}

// byteParts: the parts of one byte, where they stand in all calls, how many values may be, and how they are set.
var byteParts = []struct {
	sign  string
	limit int
	set   func(c *call.Call, x uint8)
}{
	{"s", 2, func(c *call.Call, x uint8) { c.Side = x }},
	{"t", 4, func(c *call.Call, x uint8) { c.Token = x }},
	{"a", 16, func(c *call.Call, x uint8) { c.To = x }},
	{"i", 4, func(c *call.Call, x uint8) { c.Intent.Token = x }},
	{"i", 16, func(c *call.Call, x uint8) { c.Intent.Owner = x }},
	{"o", 4, func(c *call.Call, x uint8) { c.Other.Token = x }},
	{"o", 16, func(c *call.Call, x uint8) { c.Other.Owner = x }},
}

// P8.1: each value of a part of one byte, in each kind that it belongs to: by the call and by its bytes.
func TestEachValue(t *testing.T) {
	for _, k := range kinds {
		for _, p := range byteParts {
			if !strings.Contains(k.signs, p.sign) {
				continue
			}
			for x := range 256 {
				c := with(of(k, all()), func(c *call.Call) { p.set(c, uint8(x)) })
				if x < p.limit {
					holds(t, c)
				} else {
					refused(t, k.name+" "+p.sign, c)
					unread(t, k.name+" "+p.sign, wantBytes(c), api.ErrForm)
				}
			}
		}
	}
}

// P8.1: an intent of nothing may not be, where one belongs.
func TestNoAmount(t *testing.T) {
	for _, k := range kinds {
		if strings.Contains(k.signs, "i") {
			c := with(of(k, all()), func(c *call.Call) { c.Intent.Amount = api.Int{} })
			refused(t, k.name+" i", c)
			unread(t, k.name+" i", wantBytes(c), api.ErrForm)
			refused(t, k.name+" i", with(c, func(c *call.Call) { c.Intent = api.Intent{} }))
		}
		if strings.Contains(k.signs, "o") {
			c := with(of(k, all()), func(c *call.Call) { c.Other.Amount = api.Int{} })
			refused(t, k.name+" o", c)
			unread(t, k.name+" o", wantBytes(c), api.ErrForm)
			refused(t, k.name+" o", with(c, func(c *call.Call) { c.Other = api.Intent{} }))
		}
	}
}

// foreign: small changes, each of one field, by the sign that the field belongs to.
var foreign = []struct {
	sign string
	set  func(c *call.Call)
}{
	{"s", func(c *call.Call) { c.Side = 1 }}, {"s", func(c *call.Call) { c.Side = 2 }},
	{"t", func(c *call.Call) { c.Token = 1 }}, {"t", func(c *call.Call) { c.Token = 4 }},
	{"a", func(c *call.Call) { c.To = 1 }}, {"a", func(c *call.Call) { c.To = 16 }},
	{"n", func(c *call.Call) { c.Amount[0] = 1 }}, {"n", func(c *call.Call) { c.Amount[3] = 1 << 63 }},
	{"i", func(c *call.Call) { c.Intent.Index = 1 }}, {"i", func(c *call.Call) { c.Intent.Token = 1 }},
	{"i", func(c *call.Call) { c.Intent.Owner = 1 }}, {"i", func(c *call.Call) { c.Intent.Amount[0] = 1 }},
	{"i", func(c *call.Call) { c.Intent = all().Intent }},
	{"o", func(c *call.Call) { c.Other.Index = 1 }}, {"o", func(c *call.Call) { c.Other.Token = 1 }},
	{"o", func(c *call.Call) { c.Other.Owner = 1 }}, {"o", func(c *call.Call) { c.Other.Amount[0] = 1 }},
	{"o", func(c *call.Call) { c.Other = all().Other }},
	{"b", func(c *call.Call) { c.Batch = 1 }}, {"b", func(c *call.Call) { c.Batch = math.MaxUint32 }},
	{"p", func(c *call.Call) { c.Proof[0][0] = 1 }}, {"p", func(c *call.Call) { c.Proof[31][31] = 1 }},
}

// P8.1: all else is zero: one field that doesn't belong to the kind is enough.
func TestForeignPart(t *testing.T) {
	for _, k := range kinds {
		for _, f := range foreign {
			if !strings.Contains(k.signs, f.sign) {
				refused(t, k.name+" with "+f.sign, with(of(k, all()), f.set))
			}
		}
	}
	refused(t, "all of them", with(all(), func(c *call.Call) { c.Kind = call.Expose }))
}

// starts: where each part of a kind begins, the Kind, the From and the Nonce ahead of them, and where the last one ends.
func starts(k kind) []int {
	l := []int{0, 1, 2, 10}
	for _, sign := range k.signs {
		l = append(l, l[len(l)-1]+sizes[sign])
	}
	return l
}

// P8.1: each wanting byte, each further byte.
func TestLengths(t *testing.T) {
	for _, c := range goods() {
		b := wantBytes(c)
		name := kinds[c.Kind].name
		for n := range len(b) {
			unread(t, name, b[:n], api.ErrShort)
		}
		for n := 1; n <= api.MaxTx-len(b); n += 1 + n/7 {
			unread(t, name, append(bytes.Clone(b), make([]byte, n)...), api.ErrLong)
		}
		unread(t, name, append(bytes.Clone(b), make([]byte, api.MaxTx-len(b))...), api.ErrLong)
	}
}

// P8.1: part by part, from the left: what is wrong further left is told first, a wanting byte or one that may not be.
func TestLeftFirst(t *testing.T) {
	for _, k := range kinds {
		good := wantBytes(of(k, all()))
		signs := "k" + "f" + "x" + k.signs
		at := starts(k)
		for i, sign := range signs {
			if strings.ContainsRune("xnbp", sign) {
				continue
			}
			bad := bytes.Clone(good)
			spoil(bad[at[i]:at[i+1]], sign)
			what := k.name + " " + string(sign)
			// All of this part is there: it is held against what may be, whatever is wanting or too much behind it.
			for n := at[i+1]; n <= len(bad); n++ {
				unread(t, what, bad[:n], api.ErrForm)
			}
			unread(t, what, append(bytes.Clone(bad), make([]byte, api.MaxTx-len(bad))...), api.ErrForm)
			// A byte of it is wanting.
			for n := at[i]; n < at[i+1]; n++ {
				unread(t, what, bad[:n], api.ErrShort)
			}
			unread(t, what, append(bytes.Clone(bad), make([]byte, api.MaxTx+1-len(bad))...), api.ErrLong)
		}
	}
}

// spoil: bytes of a part, made such that it may not be.
func spoil(part []byte, sign rune) {
	switch sign {
	case 'i', 'o':
		part[4] = 4
	default:
		part[0] = map[rune]byte{'k': 17, 'f': 16, 's': 2, 't': 4, 'a': 16}[sign]
	}
}

// P8.1: what is too long is told ahead of all else, and not one byte sooner.
func TestTooLong(t *testing.T) {
	for _, fill := range []byte{0, 4, 11, 16, 17, 255} {
		b := bytes.Repeat([]byte{fill}, api.MaxTx+1)
		want := api.ErrForm
		if fill == 0 || fill == 4 {
			want = api.ErrLong // a mint, a post, with bytes left
		}
		if fill == 4 {
			b[1] = 1
		}
		unread(t, "1600", b[:api.MaxTx], want)
		unread(t, "1601", b, api.ErrLong)
		unread(t, "many", bytes.Repeat([]byte{fill}, 1<<20), api.ErrLong)
	}
	unread(t, "nil", nil, api.ErrShort)
	unread(t, "empty", []byte{}, api.ErrShort)
}

// P8.2: of any bytes there is at most one call, and it is told by just these: each change of one byte is another call, or none.
func TestEachByteCounts(t *testing.T) {
	for _, k := range kinds {
		c := of(k, all())
		b := wantBytes(c)
		for i := range b {
			for _, x := range []byte{0, 1, 2, 3, 4, 15, 16, 17, 128, 255} {
				if x == b[i] {
					continue
				}
				changed := bytes.Clone(b)
				changed[i] = x
				d, e := call.Read(changed)
				if e == api.OK && d == c {
					t.Errorf("%s, byte %d: the same call", k.name, i)
				}
				isTold(t, changed, d, e)
			}
		}
	}
}

// isTold: what was read from b has b as its bytes; an error leaves nothing.
func isTold(t *testing.T, b []byte, c call.Call, e api.Errno) {
	t.Helper()
	if e != api.OK {
		if c != (call.Call{}) {
			t.Errorf("%v: %+v beside %d", b, c, e)
		}
		return
	}
	if again, e := call.Bytes(c); e != api.OK || !bytes.Equal(again, b) {
		t.Errorf("%v: its call has the bytes %v, %d", b, again, e)
	}
}

// P8.2: any bytes, most of them near those of a call.
func TestAnyBytes(t *testing.T) {
	source := rand.New(rand.NewSource(8))
	done := map[api.Errno]int{}
	for range 20000 {
		b := make([]byte, source.Intn(130))
		if source.Intn(4) == 0 {
			b = make([]byte, 1000+source.Intn(130))
		}
		source.Read(b)
		for i := range b {
			if i < 60 && source.Intn(8) != 0 {
				b[i] %= 18 - byte(i%16)
			}
		}
		if len(b) > 0 && b[0] < 17 && source.Intn(2) == 0 {
			if size := starts(kinds[b[0]]); size[len(size)-1] <= len(b) {
				b = b[:size[len(size)-1]]
			}
		}
		c, e := call.Read(b)
		done[e]++
		isTold(t, b, c, e)
		if again, e2 := call.Read(b); again != c || e2 != e {
			t.Errorf("%v: %+v, %d; and then %+v, %d", b, c, e, again, e2)
		}
	}
	for _, e := range []api.Errno{api.OK, api.ErrShort, api.ErrLong, api.ErrForm} {
		if done[e] == 0 {
			t.Errorf("%d was never told", e)
		}
	}
	if len(done) != 4 {
		t.Error(done)
	}
}

// P8.2: calls are compared as they stand; unlike ones have unlike bytes.
func TestUnlike(t *testing.T) {
	seen := map[call.Call]string{}
	told := map[string]bool{}
	for _, c := range goods() {
		b, _ := call.Bytes(c)
		if old, ok := seen[c]; ok != told[string(b)] || ok && old != string(b) {
			t.Errorf("%+v: %v", c, b)
		}
		seen[c], told[string(b)] = string(b), true
	}
}

// P8.2, R4: bytes are neither changed nor kept, their spare room neither; what is told is new.
func TestMemory(t *testing.T) {
	for _, c := range goods() {
		first, _ := call.Bytes(c)
		for i := range first {
			first[i] ^= 255
		}
		_ = append(first[:0], make([]byte, cap(first))...)
		b, e := call.Bytes(c)
		if e != api.OK || !bytes.Equal(b, wantBytes(c)) {
			t.Errorf("%+v: %v, %d after a change of the first ones", c, b, e)
		}
		room := append(bytes.Clone(b), 1, 2, 3, 4)
		d, e := call.Read(room[:len(b)])
		if e != api.OK || !bytes.Equal(room, append(bytes.Clone(b), 1, 2, 3, 4)) {
			t.Errorf("%v: %d, and left as %v", b, e, room)
		}
		for i := range room {
			room[i] = 99
		}
		if d != c {
			t.Errorf("%+v: has changed with its bytes to %+v", c, d)
		}
	}
}
