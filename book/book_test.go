package book_test

import (
	"bytes"
	"encoding/binary"
	"math/big"
	"math/rand"
	"slices"
	"testing"

	"sponsion/api"
	"sponsion/book"
	"sponsion/stage"
)

const (
	top    = 1<<64 - 1
	tokens = 4
	places = 18
)

func most() api.Int { return api.Int{top, top, top, top} }

// whole: a number's value, by its limbs alone.
func whole(a api.Int) *big.Int {
	v := new(big.Int)
	for i := 3; i >= 0; i-- {
		v.Lsh(v, 64).Or(v, new(big.Int).SetUint64(a[i]))
	}
	return v
}

// number: of a value that has at most 256 bits.
func number(v *big.Int) api.Int {
	var a api.Int
	b := v.FillBytes(make([]byte, 32))
	for i := range a {
		a[i] = binary.BigEndian.Uint64(b[24-8*i:])
	}
	return a
}

// model is balances, by another way.
type model [tokens][places]big.Int

// copied: the same balances in new memory.
func (m *model) copied() *model {
	c := new(model)
	for token := range m {
		for place := range m[token] {
			c[token][place].Set(&m[token][place])
		}
	}
	return c
}

func (m *model) supply(token int) *big.Int {
	sum := new(big.Int)
	for place := range m[token] {
		sum.Add(sum, &m[token][place])
	}
	return sum
}

// refused: what is wrong with each call, whatever there is; then with n itself.
func refused(n api.Int, token uint8, at ...uint8) api.Errno {
	for _, place := range at {
		if token > 3 || place > 17 {
			return api.ErrArg
		}
	}
	if whole(n).Sign() == 0 {
		return api.ErrZero
	}
	return api.OK
}

func (m *model) mint(token, place uint8, n api.Int) api.Errno {
	if e := refused(n, token, place); e != api.OK {
		return e
	}
	if new(big.Int).Add(m.supply(int(token)), whole(n)).BitLen() > 256 {
		return api.ErrOverflow
	}
	at := &m[token][place]
	at.Add(at, whole(n))
	return api.OK
}

func (m *model) burn(token, place uint8, n api.Int) api.Errno {
	if e := refused(n, token, place); e != api.OK {
		return e
	}
	at := &m[token][place]
	if at.Cmp(whole(n)) < 0 {
		return api.ErrFunds
	}
	at.Sub(at, whole(n))
	return api.OK
}

func (m *model) move(token, from, to uint8, n api.Int) api.Errno {
	if e := refused(n, token, from, to); e != api.OK {
		return e
	}
	if e := m.burn(token, from, n); e != api.OK {
		return e
	}
	at := &m[token][to]
	at.Add(at, whole(n))
	return api.OK
}

// row is one balance, as All tells it.
type row struct {
	key book.Key
	n   api.Int
}

// rows: the balances that aren't 0, by tokens, then by places.
func (m *model) rows() []row {
	var list []row
	for token := range m {
		for place := range m[token] {
			if m[token][place].Sign() != 0 {
				list = append(list, row{book.Key{Token: uint8(token), Place: uint8(place)}, number(&m[token][place])})
			}
		}
	}
	return list
}

// bytes: these, 34 bytes each.
func (m *model) bytes() []byte {
	var b []byte
	for _, r := range m.rows() {
		b = append(b, r.key.Token, r.key.Place)
		for i := 3; i >= 0; i-- {
			b = binary.BigEndian.AppendUint64(b, r.n[i])
		}
	}
	return b
}

// told: all that an iterator tells.
func told(seq func(func(book.Key, api.Int) bool)) []row {
	var list []row
	for k, n := range seq {
		list = append(list, row{k, n})
	}
	return list
}

// hold: all that a book answers, against what it should have.
func hold(t *testing.T, b *book.Book, want *model) {
	t.Helper()
	for _, token := range []uint8{0, 1, 2, 3, 4, 5, 128, 255} {
		var supply api.Int
		if token < tokens {
			supply = number(want.supply(int(token)))
		}
		if got := b.Supply(token); got != supply {
			t.Fatalf("Supply(%d): %v; want %v", token, got, supply)
		}
		for place := range uint8(places + 3) {
			var balance api.Int
			if token < tokens && place < places {
				balance = number(&want[token][place])
			}
			if got := b.Balance(token, place); got != balance {
				t.Fatalf("Balance(%d, %d): %v; want %v", token, place, got, balance)
			}
		}
	}
	if got := told(b.All()); !slices.Equal(got, want.rows()) {
		t.Fatalf("All: %v; want %v", got, want.rows())
	}
	if got := b.Bytes(); !bytes.Equal(got, want.bytes()) {
		t.Fatalf("Bytes: %x; want %x", got, want.bytes())
	}
}

// started: a book of a journal of its own, and its model, both without balances.
func started() (*stage.Journal, *book.Book, *model) {
	j := new(stage.Journal)
	return j, book.New(j), new(model)
}

// both: a book and its model are told the same, answer the same, and have the same; what is refused is no deed.
type both struct {
	t *testing.T
	j *stage.Journal
	b *book.Book
	m *model
}

func bothOf(t *testing.T) both {
	j, b, m := started()
	return both{t, j, b, m}
}

func (x both) done(name string, mark int, got, want api.Errno) api.Errno {
	x.t.Helper()
	if got != want {
		x.t.Fatalf("%s: %d; want %d", name, got, want)
	}
	if got != api.OK && x.j.Mark() != mark {
		x.t.Fatalf("%s was refused, and is a deed", name)
	}
	hold(x.t, x.b, x.m)
	return got
}

func (x both) mint(token, place uint8, n api.Int) api.Errno {
	x.t.Helper()
	mark := x.j.Mark()
	return x.done("Mint", mark, x.b.Mint(token, place, n), x.m.mint(token, place, n))
}

func (x both) burn(token, place uint8, n api.Int) api.Errno {
	x.t.Helper()
	mark := x.j.Mark()
	return x.done("Burn", mark, x.b.Burn(token, place, n), x.m.burn(token, place, n))
}

func (x both) move(token, from, to uint8, n api.Int) api.Errno {
	x.t.Helper()
	mark := x.j.Mark()
	return x.done("Move", mark, x.b.Move(token, from, to, n), x.m.move(token, from, to, n))
}

// expect: what it answered is what the chapter says here.
func expect(t *testing.T, got, want api.Errno) {
	t.Helper()
	if got != want {
		t.Fatalf("%d; want %d", got, want)
	}
}

// Words: the places.
func TestConstants(t *testing.T) {
	if book.Escrow != 16 || book.Vault != 17 || book.Places != 18 {
		t.Error(book.Escrow, book.Vault, book.Places)
	}
	if (book.Key{1, 2}) != (book.Key{Token: 1, Place: 2}) {
		t.Error("a Key is a token, then a place")
	}
}

// P13.1: the chapter's example.
func TestExample(t *testing.T) {
	x := bothOf(t)
	expect(t, x.mint(0, 3, api.Int{5}), api.OK)
	expect(t, x.move(0, 3, 16, api.Int{6}), api.ErrFunds)
}

// P13.1: a new book has nothing, and making it is no deed.
func TestNew(t *testing.T) {
	j, b, m := started()
	hold(t, b, m)
	if j.Mark() != 0 || len(b.Bytes()) != 0 {
		t.Error("a new book has something")
	}
}

// P13.1: Balance and Supply are 0 of each token and place that there isn't, of whatever number they are.
func TestNoSuchPlace(t *testing.T) {
	_, b, _ := started()
	for token := range uint8(tokens) {
		for place := range uint8(places) {
			expect(t, b.Mint(token, place, api.Int{1 + uint64(place), 0, 0, uint64(token)}), api.OK)
		}
	}
	for token := range 256 {
		for place := range 256 {
			var want api.Int
			if token < tokens && place < places {
				want = api.Int{1 + uint64(place), 0, 0, uint64(token)}
			}
			if got := b.Balance(uint8(token), uint8(place)); got != want {
				t.Fatalf("Balance(%d, %d): %v", token, place, got)
			}
		}
		var want api.Int
		if token < tokens {
			want = api.Int{171, 0, 0, 18 * uint64(token)} // 1 and 2 and .. and 18
		}
		if got := b.Supply(uint8(token)); got != want {
			t.Fatalf("Supply(%d): %v", token, got)
		}
	}
}

// P13.1: each call at each token and place, there and not.
func TestEachPlace(t *testing.T) {
	ends := []uint8{0, 1, 15, 16, 17, 18, 19, 32, 127, 128, 254, 255}
	for _, token := range []uint8{0, 1, 2, 3, 4, 5, 128, 255} {
		for _, place := range ends {
			x := bothOf(t)
			there := token < tokens && place < places
			want := api.OK
			if !there {
				want = api.ErrArg
			}
			expect(t, x.mint(token, place, api.Int{7, 1}), want)
			expect(t, x.burn(token, place, api.Int{3}), want)
			for _, other := range ends {
				x.mint(token, other, api.Int{0, 0, 1})
				want := api.OK
				if !there || other >= places {
					want = api.ErrArg
				}
				expect(t, x.move(token, place, other, api.Int{2}), want)
				expect(t, x.move(token, other, place, api.Int{1}), want)
			}
		}
	}
}

// P13.1, R2: the errors' order: what isn't there, then nought, then what doesn't fit.
func TestOrderOfErrors(t *testing.T) {
	x := bothOf(t)
	expect(t, x.mint(2, 5, most()), api.OK)
	for _, n := range []api.Int{{}, {1}, most()} {
		expect(t, x.mint(4, 5, n), api.ErrArg)
		expect(t, x.mint(2, 18, n), api.ErrArg)
		expect(t, x.mint(255, 255, n), api.ErrArg)
		expect(t, x.burn(4, 5, n), api.ErrArg)
		expect(t, x.burn(2, 18, n), api.ErrArg)
		expect(t, x.move(4, 5, 6, n), api.ErrArg)
		expect(t, x.move(2, 18, 5, n), api.ErrArg)
		expect(t, x.move(2, 5, 18, n), api.ErrArg)
		expect(t, x.move(2, 6, 18, n), api.ErrArg)
		expect(t, x.move(2, 18, 18, n), api.ErrArg)
	}
	// Whether there is something or nothing, and room or none:
	for _, place := range []uint8{4, 5} {
		expect(t, x.mint(2, place, api.Int{}), api.ErrZero)
		expect(t, x.burn(2, place, api.Int{}), api.ErrZero)
		expect(t, x.move(2, place, 7, api.Int{}), api.ErrZero)
		expect(t, x.move(2, place, place, api.Int{}), api.ErrZero)
		expect(t, x.mint(2, place, api.Int{1}), api.ErrOverflow)
		expect(t, x.mint(2, place, most()), api.ErrOverflow)
	}
	expect(t, x.burn(2, 4, api.Int{1}), api.ErrFunds)
	expect(t, x.move(2, 4, 5, api.Int{1}), api.ErrFunds)
	expect(t, x.move(2, 4, 4, api.Int{1}), api.ErrFunds)
}

// P13.1: Mint up to the end: it is the supply that counts, of one token, of all places.
func TestOverflow(t *testing.T) {
	for _, n := range []api.Int{{1}, {top}, {0, 1}, {0, 0, 0, 1 << 63}, {top, top, top, top - 1}, most()} {
		x := bothOf(t)
		rest := number(new(big.Int).Sub(whole(most()), whole(n)))
		above := number(new(big.Int).And(new(big.Int).Add(whole(rest), big.NewInt(1)), whole(most())))
		expect(t, x.mint(1, 0, n), api.OK)
		if above != (api.Int{}) {
			expect(t, x.mint(1, book.Vault, above), api.ErrOverflow)
			expect(t, x.mint(1, 0, above), api.ErrOverflow)
		}
		if rest != (api.Int{}) {
			expect(t, x.mint(1, book.Vault, rest), api.OK)
		}
		if x.b.Supply(1) != most() {
			t.Fatal("not at the end")
		}
		for place := range uint8(places) {
			expect(t, x.mint(1, place, api.Int{1}), api.ErrOverflow)
		}
		expect(t, x.mint(0, 0, most()), api.OK)
		expect(t, x.mint(2, 3, most()), api.OK)
		expect(t, x.burn(1, 0, n), api.OK)
		expect(t, x.mint(1, 9, n), api.OK)
	}
}

// P13.1, P13.3: a supply at its end still moves, from anywhere to anywhere.
func TestMoveAtTheEnd(t *testing.T) {
	x := bothOf(t)
	expect(t, x.mint(3, 0, most()), api.OK)
	for to := range uint8(places) {
		from := (to + places - 1) % places
		if to == 0 {
			from = 0
		}
		expect(t, x.move(3, from, to, most()), api.OK)
		if x.b.Balance(3, to) != most() || x.b.Supply(3) != most() || len(x.b.Bytes()) != 34 {
			t.Fatal("not all went")
		}
	}
}

// P13.1: Burn and Move of just what there is, and of one more.
func TestFunds(t *testing.T) {
	for _, n := range []api.Int{{1}, {2}, {top}, {0, 1}, {0, 0, 0, 1}, {top, top, top}, {top - 1, top, top, top}} {
		above := number(new(big.Int).Add(whole(n), big.NewInt(1)))
		x := bothOf(t)
		expect(t, x.mint(0, 16, n), api.OK)
		expect(t, x.mint(1, 16, most()), api.OK) // another token's is of no help
		expect(t, x.burn(0, 16, above), api.ErrFunds)
		expect(t, x.move(0, 16, 17, above), api.ErrFunds)
		expect(t, x.move(0, 16, 16, above), api.ErrFunds)
		expect(t, x.move(0, 17, 16, n), api.ErrFunds)
		expect(t, x.burn(0, 17, n), api.ErrFunds)
		expect(t, x.move(0, 16, 17, n), api.OK)
		expect(t, x.burn(0, 16, api.Int{1}), api.ErrFunds)
		expect(t, x.burn(0, 17, n), api.OK)
		expect(t, x.burn(0, 17, api.Int{1}), api.ErrFunds)
	}
}

// P13.1: a Move to the same place is done, and changes nothing.
func TestMoveToItself(t *testing.T) {
	x := bothOf(t)
	expect(t, x.mint(2, 9, api.Int{5}), api.OK)
	expect(t, x.mint(2, 10, api.Int{1}), api.OK)
	for n := range uint64(5) {
		expect(t, x.move(2, 9, 9, api.Int{1 + n}), api.OK)
	}
	expect(t, x.move(2, 9, 9, api.Int{6}), api.ErrFunds)
	expect(t, x.move(2, 10, 10, api.Int{1}), api.OK)
	expect(t, x.move(2, 11, 11, api.Int{1}), api.ErrFunds)
}

// P13.2: balances that aren't 0, in order, whatever they came in; none that is 0 again.
func TestAllInOrder(t *testing.T) {
	for seed := range int64(5) {
		x := bothOf(t)
		for _, i := range rand.New(rand.NewSource(seed)).Perm(tokens * places) {
			expect(t, x.mint(uint8(i%tokens), uint8(i/tokens), api.Int{uint64(i) + 1}), api.OK)
		}
		if len(told(x.b.All())) != tokens*places || len(x.b.Bytes()) != 34*tokens*places {
			t.Fatal("not all")
		}
		for _, i := range rand.New(rand.NewSource(^seed)).Perm(tokens * places) {
			expect(t, x.burn(uint8(i%tokens), uint8(i/tokens), api.Int{uint64(i) + 1}), api.OK)
		}
		if len(told(x.b.All())) != 0 || len(x.b.Bytes()) != 0 {
			t.Fatal("something is left")
		}
	}
}

// P13.2, R4: All tells what there was when it was called, each time that it is gone through, and may be stopped early.
func TestAllAsCalled(t *testing.T) {
	j, b, m := started()
	fill := func(n uint64) {
		for i := range uint8(places) {
			m.mint(i%tokens, i, api.Int{n})
			expect(t, b.Mint(i%tokens, i, api.Int{n}), api.OK)
		}
	}
	nothing := b.All()
	fill(4)
	full, want := b.All(), m.rows()
	for range full {
		break
	}
	seen := 0
	for range full {
		if seen++; seen == 7 {
			break
		}
	}
	expect(t, b.Burn(0, 0, api.Int{4}), api.OK)
	expect(t, b.Move(1, 1, 2, api.Int{3}), api.OK)
	expect(t, b.Mint(3, 0, api.Int{9}), api.OK)
	j.Back(0)
	for range 2 {
		if !slices.Equal(told(full), want) || len(told(nothing)) != 0 || len(told(b.All())) != 0 {
			t.Fatal("All tells what there wasn't when it was called")
		}
	}
	fill(1)
	// What is done while it is gone through isn't told.
	seen = 0
	for k, n := range b.All() {
		expect(t, b.Burn(k.Token, k.Place, n), api.OK)
		expect(t, b.Mint(3-k.Token, 17-k.Place, api.Int{2}), api.OK)
		seen++
	}
	if seen != places {
		t.Error(seen)
	}
}

// P13.2: bytes that the chapter's words give.
func TestBytes(t *testing.T) {
	_, b, _ := started()
	expect(t, b.Mint(3, 17, api.Int{0x0102030405060708, 0, 0, 0xff00000000000000}), api.OK)
	expect(t, b.Mint(3, 16, api.Int{1}), api.OK)
	expect(t, b.Mint(0, 17, api.Int{0, 2}), api.OK)
	want := make([]byte, 3*34)
	copy(want, []byte{0, 17})
	want[2+23] = 2
	copy(want[34:], []byte{3, 16})
	want[34+2+31] = 1
	copy(want[68:], []byte{3, 17, 0xff})
	copy(want[68+2+24:], []byte{1, 2, 3, 4, 5, 6, 7, 8})
	if got := b.Bytes(); !bytes.Equal(got, want) {
		t.Errorf("%x; want %x", got, want)
	}
}

// R4: the bytes are new memory.
func TestBytesAreNew(t *testing.T) {
	_, b, m := started()
	m.mint(1, 1, api.Int{1})
	expect(t, b.Mint(1, 1, api.Int{1}), api.OK)
	first := b.Bytes()
	for _, bytes := range [][]byte{first, first[:cap(first)]} {
		for i := range bytes {
			bytes[i] = 99
		}
	}
	hold(t, b, m)
}

// P13.3: what is taken back in the journal was never done, at each mark.
func TestTakenBack(t *testing.T) {
	j, b, m := started()
	r := rand.New(rand.NewSource(13))
	marks, states := []int{0}, []*model{m.copied()}
	for range 200 {
		step(t, r, b, m)
		marks, states = append(marks, j.Mark()), append(states, m.copied())
	}
	for len(marks) > 0 {
		last := len(marks) - 1
		if !j.Back(marks[last]) {
			t.Fatal("Back")
		}
		hold(t, b, states[last])
		if last%5 == 0 {
			// Another way on, and back again.
			other := states[last].copied()
			for range 5 {
				step(t, r, b, other)
			}
			hold(t, b, other)
			j.Back(marks[last])
			hold(t, b, states[last])
		}
		marks, states = marks[:last], states[:last]
	}
	if j.Mark() != 0 || len(b.Bytes()) != 0 {
		t.Error("a trace is left")
	}
}

// step: one call by chance, to a book and to its model, that may be wrong.
func step(t *testing.T, r *rand.Rand, b *book.Book, m *model) {
	t.Helper()
	token, from, to := uint8(r.Intn(tokens+1)), uint8(r.Intn(places+1)), uint8(r.Intn(places+1))
	if r.Intn(2) == 0 {
		token, from, to = uint8(r.Intn(2)), uint8(14+r.Intn(4)), uint8(14+r.Intn(4))
	}
	n := api.Int{uint64(r.Intn(6))}
	if r.Intn(4) == 0 {
		n[r.Intn(4)] = r.Uint64()
	}
	if r.Intn(4) == 0 {
		n = b.Balance(token, from) // just all that there is
	}
	var got, want api.Errno
	switch r.Intn(4) {
	case 0:
		got, want = b.Mint(token, from, n), m.mint(token, from, n)
	case 1:
		got, want = b.Burn(token, from, n), m.burn(token, from, n)
	default:
		got, want = b.Move(token, from, to, n), m.move(token, from, to, n)
	}
	if got != want {
		t.Fatalf("token %d, from %d, to %d, %v: %d; want %d", token, from, to, n, got, want)
	}
}

// P13.1 to P13.3: a long way by chance, held against the model at each step.
func TestByChance(t *testing.T) {
	for seed := range int64(20) {
		j, b, m := started()
		r := rand.New(rand.NewSource(seed))
		for i := range 300 {
			step(t, r, b, m)
			hold(t, b, m)
			if i%50 == 49 {
				j.Keep()
				hold(t, b, m)
			}
		}
	}
}

// P13.3: a Move changes no supply, nor what lies elsewhere.
func TestMoveKeepsSupply(t *testing.T) {
	_, b, m := started()
	r := rand.New(rand.NewSource(3))
	for range 200 {
		step(t, r, b, m)
	}
	var before [tokens]api.Int
	for token := range before {
		before[token] = b.Supply(uint8(token))
	}
	for range 2000 {
		token, from, to := uint8(r.Intn(tokens)), uint8(r.Intn(places)), uint8(r.Intn(places))
		b.Move(token, from, to, b.Balance(token, from))
		if b.Supply(token) != before[token] {
			t.Fatal("a supply changed")
		}
	}
}

// Words, P13.3: books of one journal are apart from each other, and are taken back together.
func TestTwoBooks(t *testing.T) {
	var j stage.Journal
	first, second := book.New(&j), book.New(&j)
	one, two := new(model), new(model)
	r := rand.New(rand.NewSource(2))
	for range 100 {
		step(t, r, first, one)
		step(t, r, second, two)
		hold(t, first, one)
		hold(t, second, two)
	}
	mark := j.Mark()
	oneThen, twoThen := one.copied(), two.copied()
	for range 40 {
		step(t, r, second, two)
		step(t, r, first, one)
	}
	j.Back(mark)
	hold(t, first, oneThen)
	hold(t, second, twoThen)
	j.Back(0)
	hold(t, first, new(model))
	hold(t, second, new(model))
}

// P13.3: what isn't kept by the journal any more stays.
func TestKept(t *testing.T) {
	x := bothOf(t)
	x.mint(1, 2, api.Int{8})
	x.move(1, 2, 3, api.Int{3})
	x.j.Keep()
	hold(t, x.b, x.m)
	kept := x.m.copied()
	x.burn(1, 2, api.Int{5})
	x.mint(1, 3, api.Int{1})
	x.j.Back(0)
	hold(t, x.b, kept)
}

// R5: two books that were told the same have the same, whatever they were told in between.
func TestSameBooks(t *testing.T) {
	_, a, _ := started()
	j, b, _ := started()
	expect(t, a.Mint(0, 1, api.Int{3}), api.OK)
	expect(t, a.Mint(0, 2, api.Int{4}), api.OK)
	expect(t, b.Mint(0, 2, api.Int{7}), api.OK)
	expect(t, b.Move(0, 2, 1, api.Int{3}), api.OK)
	mark := j.Mark()
	expect(t, b.Move(0, 1, 5, api.Int{3}), api.OK)
	expect(t, b.Burn(0, 2, api.Int{4}), api.OK)
	j.Back(mark)
	if !bytes.Equal(a.Bytes(), b.Bytes()) || !slices.Equal(told(a.All()), told(b.All())) {
		t.Error("unlike books")
	}
}
