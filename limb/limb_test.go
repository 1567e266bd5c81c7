package limb_test

import (
	"math/big"
	"testing"

	"sponsion/api"
	"sponsion/limb"
)

const greatest = 1<<64 - 1

// edges: limbs where bits, digits and carries turn over.
func edges() []uint64 {
	l := []uint64{0, 3, 7, 10, 0x123456789abcdef0, 0xfedcba9876543210}
	for _, bit := range []uint{0, 1, 31, 32, 33, 62, 63} {
		x := uint64(1) << bit
		l = append(l, x-1, x, x+1, -x, ^x)
	}
	return append(l, greatest)
}

// scatter: n limbs of all lengths, the same at each run.
func scatter(n int) []uint64 {
	l := make([]uint64, n)
	x := uint64(88172645463325252)
	for i := range l {
		x ^= x << 13
		x ^= x >> 7
		x ^= x << 17
		l[i] = x >> (x * 0x9e3779b97f4a7c15 >> 58)
	}
	return l
}

func number(x uint64) *big.Int { return new(big.Int).SetUint64(x) }

// whole: a pair as one number.
func whole(hi, lo uint64) *big.Int {
	n := number(hi)
	return n.Lsh(n, 64).Or(n, number(lo))
}

func carried(carry uint64) *big.Int {
	if carry == 0 {
		return new(big.Int)
	}
	return big.NewInt(1)
}

// P1.1
func TestAdd(t *testing.T) {
	for _, c := range []struct{ a, b, carry, sum, out uint64 }{
		{0, 0, 0, 0, 0},
		{2, 3, 0, 5, 0},
		{2, 3, 1, 6, 0},
		{greatest, 1, 0, 0, 1},            // just 2^64
		{1 << 63, 1 << 63, 0, 0, 1},       // just 2^64
		{greatest - 1, 1, 0, greatest, 0}, // just below
		{greatest, 0, 0, greatest, 0},
		{greatest, 0, 1, 0, 1}, // the carry alone leads to 2^64
		{0, greatest, 1, 0, 1},
		{greatest - 1, 0, 1, greatest, 0},
		{greatest, greatest, 0, greatest - 1, 1},
		{greatest, greatest, 1, greatest, 1},
		{2, 3, 2, 6, 0}, // any carry but 0 counts as 1
		{2, 3, 1 << 32, 6, 0},
		{2, 3, 1 << 63, 6, 0},
		{2, 3, greatest, 6, 0},
		{greatest - 1, 1, 2, 0, 1},
		{greatest - 1, 0, greatest, greatest, 0},
		{greatest, greatest, greatest, greatest, 1},
	} {
		if sum, out := limb.Add(c.a, c.b, c.carry); sum != c.sum || out != c.out {
			t.Errorf("Add(%d, %d, %d): %d, %d; want %d, %d", c.a, c.b, c.carry, sum, out, c.sum, c.out)
		}
	}
}

// P1.1
func TestSub(t *testing.T) {
	for _, c := range []struct{ a, b, borrow, diff, out uint64 }{
		{0, 0, 0, 0, 0}, // just 0
		{5, 3, 0, 2, 0},
		{5, 3, 1, 1, 0},
		{5, 4, 1, 0, 0}, // just 0
		{greatest, greatest, 0, 0, 0},
		{4, 5, 0, greatest, 1}, // just below 0
		{5, 5, 1, greatest, 1},
		{0, 0, 1, greatest, 1},
		{greatest, greatest, 1, greatest, 1},
		{0, greatest, 0, 1, 1},
		{0, greatest, 1, 0, 1}, // -2^64: 0, and yet a borrow
		{greatest, 0, 0, greatest, 0},
		{greatest, 0, 1, greatest - 1, 0},
		{5, 3, 2, 1, 0}, // any borrow but 0 counts as 1
		{5, 3, 1 << 32, 1, 0},
		{5, 3, 1 << 63, 1, 0},
		{5, 3, greatest, 1, 0},
		{5, 4, 2, 0, 0},
		{5, 5, greatest, greatest, 1},
	} {
		if diff, out := limb.Sub(c.a, c.b, c.borrow); diff != c.diff || out != c.out {
			t.Errorf("Sub(%d, %d, %d): %d, %d; want %d, %d", c.a, c.b, c.borrow, diff, out, c.diff, c.out)
		}
	}
}

// P1.1: sum and out together are the whole sum; out is taken off the whole difference.
func TestAddAndSubAreWhole(t *testing.T) {
	l := append(edges(), scatter(60)...)
	for _, a := range l {
		for _, b := range l {
			for _, carry := range []uint64{0, 1, 2, 1 << 32, 1 << 63, greatest} {
				checkSum(t, a, b, carry)
				checkDifference(t, a, b, carry)
			}
		}
	}
}

func checkSum(t *testing.T, a, b, carry uint64) {
	t.Helper()
	want := number(a)
	want.Add(want, number(b)).Add(want, carried(carry))
	if sum, out := limb.Add(a, b, carry); out > 1 || whole(out, sum).Cmp(want) != 0 {
		t.Fatalf("Add(%d, %d, %d): %d, %d; want %v together", a, b, carry, sum, out, want)
	}
}

func checkDifference(t *testing.T, a, b, borrow uint64) {
	t.Helper()
	want := number(a)
	want.Sub(want, number(b)).Sub(want, carried(borrow))
	diff, out := limb.Sub(a, b, borrow)
	got := number(diff)
	if got.Sub(got, whole(out, 0)); out > 1 || got.Cmp(want) != 0 {
		t.Fatalf("Sub(%d, %d, %d): %d, %d; want %v together", a, b, borrow, diff, out, want)
	}
}

// P1.2
func TestMul(t *testing.T) {
	for _, c := range []struct{ a, b, hi, lo uint64 }{
		{0, 0, 0, 0},
		{0, greatest, 0, 0},
		{6, 7, 0, 42},
		{1, greatest, 0, greatest},
		{1 << 32, 1 << 32, 1, 0},
		{1<<32 - 1, 1<<32 + 1, 0, greatest},
		{1 << 63, 2, 1, 0},
		{greatest, 2, 1, greatest - 1},
		{greatest, greatest, greatest - 1, 1},
		{greatest, greatest - 1, greatest - 2, 2},
	} {
		if hi, lo := limb.Mul(c.a, c.b); hi != c.hi || lo != c.lo {
			t.Errorf("Mul(%d, %d): %d, %d; want %d, %d", c.a, c.b, hi, lo, c.hi, c.lo)
		}
	}
}

// P1.2
func TestMulIsWhole(t *testing.T) {
	l := append(edges(), scatter(100)...)
	for _, a := range l {
		for _, b := range l {
			want := new(big.Int).Mul(number(a), number(b))
			if hi, lo := limb.Mul(a, b); whole(hi, lo).Cmp(want) != 0 {
				t.Fatalf("Mul(%d, %d): %d, %d; want %v", a, b, hi, lo, want)
			}
		}
	}
}

// P1.2
func TestDiv(t *testing.T) {
	for _, c := range []struct{ hi, lo, y, q, r uint64 }{
		{0, 0, 1, 0, 0},
		{0, 42, 5, 8, 2},
		{0, 4, 5, 0, 4},
		{1, 0, 2, 1 << 63, 0}, // the document's example
		{6, 7, 10, 11068046444225730970, 3},
		{0, greatest, 1, greatest, 0}, // quotients of just 64 bits
		{0, greatest, greatest, 1, 0},
		{1, greatest, 2, greatest, 1},
		{9, greatest, 10, greatest, 9},
		{greatest - 1, greatest, greatest, greatest, greatest - 1},
		{greatest - 1, 1, greatest, greatest, 0}, // the greatest limbs' product, and back
		{greatest - 1, 0, greatest, greatest - 1, greatest - 1},
		{1<<63 - 1, greatest, 1 << 63, greatest, 1<<63 - 1},
	} {
		if q, r, e := limb.Div(c.hi, c.lo, c.y); q != c.q || r != c.r || e != api.OK {
			t.Errorf("Div(%d, %d, %d): %d, %d, %d; want %d, %d, 0", c.hi, c.lo, c.y, q, r, e, c.q, c.r)
		}
	}
}

// P1.2: quotients of which a digit's guess, by the divisor's upper half alone, is 1 or 2 too great, or no digit at all.
func TestDivMendsItsGuesses(t *testing.T) {
	for _, c := range []struct{ hi, lo, y uint64 }{
		{1 << 62, 0, 1<<63 + 1},
		{1 << 62, 0, 1<<63 + 1<<32 - 1},
		{1<<63 - 1, 0, 1<<63 + 1<<32 - 1},
		{1 << 63, 0, 1<<63 + 1},
		{1 << 63, 0, 1<<63 + 1<<32 - 1},
		{1<<63 + 1<<32 - 2, 0, 1<<63 + 1<<32 - 1},
		{1<<63 + 1<<32 - 2, greatest, 1<<63 + 1<<32 - 1},
		{1<<63 + 1<<31 + 7, 0, 1<<63 + 1<<32 - 1},
		{0x7fffffff, 0xffffffff00000000, 0x80000000ffffffff},
	} {
		checkQuotient(t, c.hi, c.lo, c.y)
	}
}

// P1.2: pairs of all lengths, and those about a multiple of the divisor, where a quotient is just reached or just missed.
func TestDivIsWhole(t *testing.T) {
	l := append(edges(), scatter(60)...)
	for _, y := range l {
		for _, q := range l {
			for _, lo := range []uint64{0, 1, q, y, greatest} {
				checkQuotient(t, q, lo, y)
			}
			hi, lo := limb.Mul(q, y)
			checkQuotient(t, hi, lo, y)
			less, borrow := limb.Sub(lo, 1, 0)
			checkQuotient(t, hi-borrow, less, y)
			more, carry := limb.Add(lo, y-1, 0)
			checkQuotient(t, hi+carry, more, y)
			more, carry = limb.Add(lo, y, 0)
			checkQuotient(t, hi+carry, more, y)
		}
	}
}

// checkQuotient holds Div, at any arguments, against what big numbers say.
func checkQuotient(t *testing.T, hi, lo, y uint64) {
	t.Helper()
	wantE, wantQ, wantR := api.OK, new(big.Int), new(big.Int)
	if y == 0 {
		wantE = api.ErrZero
	} else if wantQ.QuoRem(whole(hi, lo), number(y), wantR); wantQ.BitLen() > 64 {
		wantE, wantQ, wantR = api.ErrOverflow, new(big.Int), new(big.Int)
	}
	q, r, e := limb.Div(hi, lo, y)
	if e != wantE || number(q).Cmp(wantQ) != 0 || number(r).Cmp(wantR) != 0 {
		t.Fatalf("Div(%d, %d, %d): %d, %d, %d; want %v, %v, %d", hi, lo, y, q, r, e, wantQ, wantR, wantE)
	}
}

// P1.2: the errors, in their order; beside them both answers are 0.
func TestDivErrors(t *testing.T) {
	for _, c := range []struct {
		hi, lo, y uint64
		e         api.Errno
	}{
		{0, 0, 0, api.ErrZero},
		{0, 7, 0, api.ErrZero},
		{0, greatest, 0, api.ErrZero},
		{10, 0, 0, api.ErrZero}, // too great as well: the first error is told
		{1, 0, 0, api.ErrZero},
		{greatest, greatest, 0, api.ErrZero},
		{1, 0, 1, api.ErrOverflow}, // a quotient of just 65 bits
		{2, 0, 2, api.ErrOverflow},
		{10, 0, 10, api.ErrOverflow},
		{10, 9, 10, api.ErrOverflow},
		{1 << 63, 0, 1 << 63, api.ErrOverflow},
		{greatest, 0, greatest, api.ErrOverflow},
		{greatest, greatest, greatest, api.ErrOverflow},
		{greatest, greatest, 1, api.ErrOverflow},
		{11, 7, 10, api.ErrOverflow},
	} {
		if q, r, e := limb.Div(c.hi, c.lo, c.y); q != 0 || r != 0 || e != c.e {
			t.Errorf("Div(%d, %d, %d): %d, %d, %d; want 0, 0, %d", c.hi, c.lo, c.y, q, r, e, c.e)
		}
	}
}

// P1.2
func TestLen(t *testing.T) {
	for _, c := range []struct {
		x    uint64
		bits int
	}{
		{0, 0}, {1, 1}, {2, 2}, {3, 2}, {4, 3}, {255, 8}, {256, 9}, {greatest, 64},
	} {
		if got := limb.Len(c.x); got != c.bits {
			t.Errorf("Len(%d): %d; want %d", c.x, got, c.bits)
		}
	}
	for bit := range 64 {
		least := uint64(1) << bit
		for _, x := range []uint64{least, least | 1, least | least>>1, 2*least - 1} {
			if got := limb.Len(x); got != bit+1 {
				t.Errorf("Len(%d): %d; want %d", x, got, bit+1)
			}
		}
	}
}
