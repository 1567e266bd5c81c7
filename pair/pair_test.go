package pair_test

import (
	"bytes"
	"encoding/binary"
	"math/rand"
	"runtime"
	"testing"

	"sponsion/api"
	"sponsion/book"
	"sponsion/pair"
	"sponsion/stage"
)

const (
	top      = 1<<64 - 1
	tokens   = 4
	places   = 18
	accounts = 16
)

// model is what a pair has, by another way: all is copied where something may be taken back.
type model struct {
	balances [2][tokens][places]api.Int
	nonces   [accounts]uint64
}

// bytes: as the chapter writes them.
func (m *model) bytes() []byte {
	var all []byte
	for side := range m.balances {
		var rows []byte
		count := uint32(0)
		for token := range m.balances[side] {
			for place, n := range m.balances[side][token] {
				if n == (api.Int{}) {
					continue
				}
				count++
				rows = append(rows, byte(token), byte(place))
				for i := 3; i >= 0; i-- {
					rows = binary.BigEndian.AppendUint64(rows, n[i])
				}
			}
		}
		all = binary.BigEndian.AppendUint32(all, count)
		all = append(all, rows...)
	}
	for _, n := range m.nonces {
		all = binary.BigEndian.AppendUint64(all, n)
	}
	return all
}

// hold: all that a pair answers, against what it should have.
func hold(t *testing.T, p *pair.Pair, want *model) {
	t.Helper()
	for side := range uint8(2) {
		for token := range uint8(tokens) {
			for place := range uint8(places) {
				n := want.balances[side][token][place]
				if got := p.Book(side).Balance(token, place); got != n {
					t.Fatalf("side %d: Balance(%d, %d): %v; want %v", side, token, place, got, n)
				}
			}
		}
	}
	for account := range 256 {
		var n uint64
		if account < accounts {
			n = want.nonces[account]
		}
		if got := p.Nonce(uint8(account)); got != n {
			t.Fatalf("Nonce(%d): %d; want %d", account, got, n)
		}
	}
	if got := p.Bytes(); !bytes.Equal(got, want.bytes()) {
		t.Fatalf("Bytes: %x; want %x", got, want.bytes())
	}
}

// mark: how many deeds there should be.
func mark(t *testing.T, p *pair.Pair, want int) {
	t.Helper()
	if got := p.Journal().Mark(); got != want {
		t.Fatalf("Mark: %d; want %d", got, want)
	}
}

// try: what it answers, and how often it called the function.
func try(t *testing.T, p *pair.Pair, from uint8, nonce uint64, do func() api.Errno, want api.Errno, calls int) {
	t.Helper()
	called := 0
	got := p.Try(from, nonce, func() api.Errno {
		called++
		return do()
	})
	if got != want || called != calls {
		t.Fatalf("Try(%d, %d): %d, called %d times; want %d, %d times", from, nonce, got, called, want, calls)
	}
}

func ok() api.Errno { return api.OK }

// mint: of a book that must take it.
func mint(t *testing.T, b *book.Book, token, place uint8, n api.Int) {
	t.Helper()
	if e := b.Mint(token, place, n); e != api.OK {
		t.Fatalf("Mint(%d, %d, %v): %d", token, place, n, e)
	}
}

// P14.2: the chapter's example.
func TestExample(t *testing.T) {
	p := pair.New()
	try(t, p, 0, 0, ok, api.OK, 1)
	try(t, p, 0, 0, ok, api.ErrNonce, 0)
	try(t, p, 0, 1, ok, api.OK, 1)
}

// P14.1, P14.3: a new pair has empty books, nonces of 0, and a journal without deeds.
func TestNew(t *testing.T) {
	p := pair.New()
	hold(t, p, &model{})
	mark(t, p, 0)
	if got := p.Bytes(); !bytes.Equal(got, make([]byte, 4+4+16*8)) {
		t.Errorf("Bytes: %x", got)
	}
	if pair.New() == p || pair.New().Journal() == p.Journal() || pair.New().Book(0) == p.Book(0) {
		t.Error("two pairs share something")
	}
}

// P14.1: the books of sides 0 and 1 alone, each time the same ones, of one journal.
func TestBook(t *testing.T) {
	p := pair.New()
	for side := range 256 {
		b := p.Book(uint8(side))
		if (b != nil) != (side < 2) || b != p.Book(uint8(side)) {
			t.Fatalf("Book(%d): %v", side, b)
		}
	}
	if p.Book(0) == p.Book(1) || p.Journal() == nil || p.Journal() != p.Journal() {
		t.Fatal("one book, or not one journal")
	}
	m := &model{}
	mint(t, p.Book(0), 2, 5, api.Int{1})
	m.balances[0][2][5] = api.Int{1}
	hold(t, p, m)
	first := p.Journal().Mark()
	mint(t, p.Book(1), 2, 5, api.Int{0, 7})
	mint(t, p.Book(0), 0, 0, api.Int{3})
	if first == 0 || p.Journal().Mark() <= first {
		t.Fatal("what is done to the books isn't done in the journal")
	}
	if !p.Journal().Back(first) {
		t.Fatal("Back")
	}
	hold(t, p, m)
	p.Journal().Back(0)
	hold(t, p, &model{})
}

// P14.1: what is done to one side isn't done to the other one.
func TestSides(t *testing.T) {
	p, m := pair.New(), &model{}
	for side := range uint8(2) {
		for token := range uint8(tokens) {
			for place := range uint8(places) {
				n := api.Int{uint64(side) + 1, uint64(token), uint64(place), top}
				if place > 0 {
					n[3] = 1 << 50
				} else {
					n[3] = 1 << 62
				}
				mint(t, p.Book(side), token, place, n)
				m.balances[side][token][place] = n
				hold(t, p, m)
			}
		}
	}
}

// P14.2: ErrArg of each number that is no account, ahead of ErrNonce, and the function isn't called.
func TestNoAccount(t *testing.T) {
	p := pair.New()
	for from := accounts; from < 256; from++ {
		for _, nonce := range []uint64{0, 1, top} {
			try(t, p, uint8(from), nonce, ok, api.ErrArg, 0)
		}
	}
	hold(t, p, &model{})
}

// P14.2: ErrNonce of each other nonce, and the function isn't called.
func TestNonce(t *testing.T) {
	p, m := pair.New(), &model{}
	for from := range uint8(accounts) {
		for next := range uint64(from) + 3 {
			for _, wrong := range []uint64{next - 1, next + 1, next + 1<<8, next + 1<<32, next ^ 1<<63, top - next, 0, 1, 2, top} {
				if wrong != next {
					try(t, p, from, wrong, ok, api.ErrNonce, 0)
				}
			}
			hold(t, p, m)
			try(t, p, from, next, ok, api.OK, 1)
			m.nonces[from]++
			hold(t, p, m)
		}
	}
}

// P14.2: a nonce grows beyond one byte's numbers, and beyond two.
func TestManyNonces(t *testing.T) {
	p, m := pair.New(), &model{}
	for n := range uint64(70000) {
		if e := p.Try(7, n, ok); e != api.OK {
			t.Fatal(n, e)
		}
	}
	m.nonces[7] = 70000
	hold(t, p, m)
}

// P14.2: with OK all is kept, and the mark is 0, with whatever was done ahead of it.
func TestKept(t *testing.T) {
	p, m := pair.New(), &model{}
	mint(t, p.Book(1), 3, 17, api.Int{9})
	m.balances[1][3][17] = api.Int{9}
	try(t, p, 15, 0, func() api.Errno {
		if p.Nonce(15) != 0 {
			t.Error("the nonce is one more ahead of the function's end")
		}
		mint(t, p.Book(0), 1, 2, api.Int{4})
		return p.Book(0).Move(1, 2, 16, api.Int{1})
	}, api.OK, 1)
	m.balances[0][1][2], m.balances[0][1][16] = api.Int{3}, api.Int{1}
	m.nonces[15] = 1
	hold(t, p, m)
	mark(t, p, 0)
	if p.Journal().Back(1) || !p.Journal().Back(0) {
		t.Error("Back")
	}
	hold(t, p, m)
}

// P14.2, P14.3: with each error all is taken back that was done since, and no more; it is told as it is.
func TestTakenBack(t *testing.T) {
	for _, e := range []api.Errno{api.ErrArg, api.ErrOverflow, api.ErrNonce, api.ErrSyntax, 18, -1, 1 << 40, -1 << 63} {
		for _, ahead := range []bool{false, true} {
			p, m := pair.New(), &model{}
			try(t, p, 4, 0, func() api.Errno { return p.Book(0).Mint(0, 0, api.Int{0, 1}) }, api.OK, 1)
			m.balances[0][0][0] = api.Int{0, 1}
			m.nonces[4] = 1
			if ahead {
				mint(t, p.Book(1), 2, 2, api.Int{6})
				m.balances[1][2][2] = api.Int{6}
			}
			was := p.Journal().Mark()
			try(t, p, 4, 1, func() api.Errno {
				p.Book(0).Burn(0, 0, api.Int{0, 1})
				p.Book(1).Burn(2, 2, api.Int{6})
				p.Book(1).Mint(2, 2, api.Int{8})
				p.Book(1).Mint(3, 3, api.Int{0, 0, 0, top})
				p.Book(1).Move(3, 3, 4, api.Int{1})
				return e
			}, e, 1)
			hold(t, p, m)
			mark(t, p, was)
			try(t, p, 4, 1, ok, api.OK, 1)
			m.nonces[4] = 2
			hold(t, p, m)
			mark(t, p, 0)
		}
	}
}

// P14.2: a function that does nothing may refuse, too.
func TestNothingToTakeBack(t *testing.T) {
	p := pair.New()
	try(t, p, 0, 0, func() api.Errno { return api.ErrFee }, api.ErrFee, 1)
	hold(t, p, &model{})
	mark(t, p, 0)
}

// P14.1, P14.2: what was done to others' maps of the journal is taken back, and kept, too.
func TestOthersMaps(t *testing.T) {
	p := pair.New()
	others := stage.New[int, string](p.Journal(), func(a, b int) bool { return a < b })
	others.Set(1, "a")
	refuse := func() api.Errno {
		others.Set(1, "b")
		others.Set(2, "c")
		others.Drop(1)
		return api.ErrPaid
	}
	try(t, p, 9, 0, refuse, api.ErrPaid, 1)
	if v, had := others.Get(1); v != "a" || !had || others.Len() != 1 {
		t.Error("not taken back:", v, others.Len())
	}
	mark(t, p, 1)
	try(t, p, 9, 0, func() api.Errno { others.Set(2, "c"); return api.OK }, api.OK, 1)
	try(t, p, 9, 1, refuse, api.ErrPaid, 1)
	p.Journal().Back(0)
	if v, _ := others.Get(2); v != "c" || others.Len() != 2 {
		t.Error("not kept:", v, others.Len())
	}
}

// R1, P14.3: a function that panics is answered with an error, and all is taken back.
func TestPanic(t *testing.T) {
	p := pair.New()
	mint(t, p.Book(0), 1, 1, api.Int{1})
	m := &model{}
	m.balances[0][1][1] = api.Int{1}
	for _, what := range []any{"so", nil, 3} {
		got := p.Try(1, 0, func() api.Errno {
			mint(t, p.Book(1), 1, 1, api.Int{1})
			panic(what)
		})
		if got == api.OK {
			t.Error(got)
		}
		hold(t, p, m)
		mark(t, p, 1)
	}
	try(t, p, 1, 0, ok, api.OK, 1)
}

// P14.3: a function that never answers, since its goroutine ends, has done nothing.
func TestGoexit(t *testing.T) {
	p := pair.New()
	end := make(chan bool)
	go func() {
		defer close(end)
		p.Try(1, 0, func() api.Errno {
			p.Book(1).Mint(1, 1, api.Int{1})
			runtime.Goexit()
			return api.OK
		})
		t.Error("it went on")
	}()
	<-end
	hold(t, p, &model{})
	mark(t, p, 0)
}

// R4: Bytes are new memory each time.
func TestNewMemory(t *testing.T) {
	p := pair.New()
	mint(t, p.Book(0), 0, 0, api.Int{1})
	was := string(p.Bytes())
	b := p.Bytes()
	for i := range b {
		b[i] ^= 255
	}
	for i := range b[:cap(b)] {
		b[:cap(b)][i] = 77
	}
	if string(p.Bytes()) != was {
		t.Error("what was told is shared")
	}
}

// some: one of the numbers that are likely to matter.
func some(r *rand.Rand) api.Int {
	list := []api.Int{{}, {1}, {2}, {top}, {0, 1}, {0, 0, 0, 1 << 63}, {top, top, top, top}}
	return list[r.Intn(len(list))]
}

// copyOf: what the books should have, asked of them one balance at a time.
func copyOf(p *pair.Pair) (all [2][tokens][places]api.Int) {
	for side := range all {
		for token := range all[side] {
			for place := range all[side][token] {
				all[side][token][place] = p.Book(uint8(side)).Balance(uint8(token), uint8(place))
			}
		}
	}
	return all
}

// deeds: some, by chance, till one is refused (its error), or they are over.
func deeds(r *rand.Rand, p *pair.Pair) api.Errno {
	for range r.Intn(6) {
		b := p.Book(uint8(r.Intn(2)))
		token, from, to, n := uint8(r.Intn(5)), uint8(r.Intn(places)), uint8(r.Intn(places+1)), some(r)
		e := []func() api.Errno{
			func() api.Errno { return b.Mint(token, to, n) },
			func() api.Errno { return b.Burn(token, from, n) },
			func() api.Errno { return b.Move(token, from, to, n) },
		}[r.Intn(3)]()
		if e != api.OK && r.Intn(2) == 0 {
			return e
		}
	}
	return api.OK
}

// P14.1 to P14.3: long ways by chance.
func TestByChance(t *testing.T) {
	for seed := range int64(20) {
		r := rand.New(rand.NewSource(seed))
		p, m := pair.New(), &model{}
		for range 300 {
			from, nonce := uint8(r.Intn(accounts+2)), uint64(r.Intn(3))
			if from < accounts && r.Intn(3) > 0 {
				nonce = m.nonces[from]
			}
			want, called := api.OK, 0
			after := m.balances
			got := p.Try(from, nonce, func() api.Errno {
				called++
				want = deeds(r, p)
				after = copyOf(p)
				return want
			})
			right := from < accounts && nonce == m.nonces[from]
			switch {
			case from >= accounts:
				want = api.ErrArg
			case !right:
				want = api.ErrNonce
			case want == api.OK:
				m.nonces[from]++
				m.balances = after
			}
			if got != want || (called == 1) != right || called > 1 {
				t.Fatalf("Try(%d, %d): %d, called %d times; want %d", from, nonce, got, called, want)
			}
			hold(t, p, m)
			mark(t, p, 0)
		}
	}
}
