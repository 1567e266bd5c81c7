package wide_test

import (
	"math/big"
	"testing"

	"sponsion/api"
	"sponsion/huge"
	"sponsion/wide"
)

const top = 1<<64 - 1

func most() api.Int { return api.Int{top, top, top, top} }

// edges: numbers at both ends, where a limb turns over, and those by which a guess of a limb goes furthest wrong.
func edges() []api.Int {
	l := []api.Int{{}, most(), {top - 1, top, top, top}, {0, top, top, top}, {top, 0, top, 0}, {0, 1, 0, 1}}
	for i := range 4 {
		var one, full, half, below, wrong api.Int
		one[i], full[i], half[i], wrong[i] = 1, top, 1<<63, 1<<63
		for j := range i {
			below[j], wrong[j] = top, top
		}
		below[i] = top
		l = append(l, one, full, half, below, wrong)
	}
	return append(l, huge.Of(2), huge.Of(3), huge.Of(10), api.Int{1, 1, 1, 1}, api.Int{0, 0, 1 << 32}, api.Int{1, 0, 0, 1 << 63}, api.Int{0, top, top, 1 << 63})
}

// scatter: n numbers of all lengths, the same at each run.
func scatter(n int) []api.Int {
	l := make([]api.Int, n)
	x := uint64(88172645463325252)
	for i := range l {
		for j := range 1 + i%4 {
			x ^= x << 13
			x ^= x >> 7
			x ^= x << 17
			l[i][j] = x >> (x * 0x9e3779b97f4a7c15 >> 58)
		}
	}
	return l
}

func numbers(n int) []api.Int { return append(edges(), scatter(n)...) }

// wides: each two numbers, one above the other.
func wides(l []api.Int) []wide.Wide {
	var out []wide.Wide
	for _, a := range l {
		for _, b := range l {
			out = append(out, wide.Wide{a[0], a[1], a[2], a[3], b[0], b[1], b[2], b[3]})
		}
	}
	return out
}

// value: what limbs stand for, the lowest first.
func value(limbs ...uint64) *big.Int {
	v := new(big.Int)
	for i := len(limbs) - 1; i >= 0; i-- {
		v.Lsh(v, 64).Or(v, new(big.Int).SetUint64(limbs[i]))
	}
	return v
}

// fits: is this what stands for v, or, if v has more than 256 bits, nothing but ErrOverflow?
func fits(got api.Int, e api.Errno, v *big.Int) bool {
	if v.BitLen() > 256 {
		return e == api.ErrOverflow && got == api.Int{}
	}
	return e == api.OK && value(got[:]...).Cmp(v) == 0
}

// P3.1
func TestProduct(t *testing.T) {
	l := numbers(100)
	for _, a := range l {
		for _, b := range l {
			got := wide.Product(a, b)
			if want := new(big.Int).Mul(value(a[:]...), value(b[:]...)); value(got[:]...).Cmp(want) != 0 {
				t.Fatalf("Product(%v, %v): %v, not %v", a, b, got, want)
			}
		}
	}
}

// P3.1
func TestProductAtTheEnds(t *testing.T) {
	for _, c := range []struct {
		a, b api.Int
		want wide.Wide
	}{
		{huge.Of(0), most(), wide.Wide{}},
		{most(), huge.Of(0), wide.Wide{}},
		{huge.Of(7), huge.Of(5), wide.Wide{35}},
		{most(), huge.Of(1), wide.Wide{top, top, top, top}},
		{huge.Of(2), most(), wide.Wide{top - 1, top, top, top, 1}},
		{api.Int{0, 0, 0, 1}, api.Int{0, 0, 0, 1}, wide.Wide{6: 1}},
		{most(), most(), wide.Wide{1, 0, 0, 0, top - 1, top, top, top}},
	} {
		if got := wide.Product(c.a, c.b); got != c.want {
			t.Errorf("Product(%v, %v): %v, not %v", c.a, c.b, got, c.want)
		}
	}
}

// P3.1: by big numbers' own quotient.
func TestDivide(t *testing.T) {
	for _, n := range wides(append(edges(), scatter(20)...)) {
		for _, d := range edges()[1:] {
			checkDivide(t, n, d)
		}
	}
	l := scatter(400)
	for i, n := range wides(l[:40]) {
		checkDivide(t, n, l[i%len(l)])
	}
}

func checkDivide(t *testing.T, n wide.Wide, d api.Int) {
	t.Helper()
	if d == (api.Int{}) {
		return
	}
	q, r, e := wide.Divide(n, d)
	wantQ, wantR := new(big.Int).QuoRem(value(n[:]...), value(d[:]...), new(big.Int))
	if e != api.OK || value(q[:]...).Cmp(wantQ) != 0 || value(r[:]...).Cmp(wantR) != 0 {
		t.Fatalf("Divide(%v, %v): %v, %v, %v, not %v, %v", n, d, q, r, e, wantQ, wantR)
	}
}

// P3.1: what lies just below, at and just above a multiple, where a quotient turns over.
func TestDivideAboutMultiples(t *testing.T) {
	one := big.NewInt(1)
	for _, d := range numbers(30) {
		for _, q := range numbers(30) {
			v := new(big.Int).Mul(value(d[:]...), value(q[:]...))
			checkDivide(t, wide.Product(d, q), d)
			checkDivide(t, wideOf(new(big.Int).Add(v, one)), d)
			if v.Sign() > 0 {
				checkDivide(t, wideOf(new(big.Int).Sub(v, one)), d)
			}
		}
	}
}

func wideOf(v *big.Int) wide.Wide {
	var w wide.Wide
	for i := range w {
		w[i] = new(big.Int).Rsh(v, uint(64*i)).Uint64()
	}
	return w
}

// P3.1
func TestDivideAtTheEnds(t *testing.T) {
	full := wide.Wide{top, top, top, top, top, top, top, top}
	for _, c := range []struct {
		n wide.Wide
		d api.Int
		q wide.Wide
		r api.Int
	}{
		{wide.Wide{}, huge.Of(1), wide.Wide{}, huge.Of(0)},
		{wide.Wide{}, most(), wide.Wide{}, huge.Of(0)},
		{wide.Wide{35}, huge.Of(3), wide.Wide{11}, huge.Of(2)},
		{full, huge.Of(1), full, huge.Of(0)},
		{full, huge.Of(2), wide.Wide{top, top, top, top, top, top, top, 1<<63 - 1}, huge.Of(1)},
		{full, most(), wide.Wide{0: 1, 4: 1}, huge.Of(0)},
		{full, api.Int{0, 0, 0, 1}, wide.Wide{top, top, top, top, top}, api.Int{top, top, top}},
		{wide.Wide{top - 1, top, top, top}, most(), wide.Wide{}, api.Int{top - 1, top, top, top}},
		{wide.Wide{top, top, top, top}, most(), wide.Wide{1}, huge.Of(0)},
		{wide.Wide{4: 1}, most(), wide.Wide{1}, huge.Of(1)},
	} {
		if q, r, e := wide.Divide(c.n, c.d); q != c.q || r != c.r || e != api.OK {
			t.Errorf("Divide(%v, %v): %v, %v, %v, not %v, %v", c.n, c.d, q, r, e, c.q, c.r)
		}
	}
}

// P3.1
func TestDiv(t *testing.T) {
	l := numbers(100)
	for _, a := range l {
		for _, d := range l[1:] {
			if d == (api.Int{}) {
				continue
			}
			q, r, e := wide.Div(a, d)
			wantQ, wantR := new(big.Int).QuoRem(value(a[:]...), value(d[:]...), new(big.Int))
			if e != api.OK || value(q[:]...).Cmp(wantQ) != 0 || value(r[:]...).Cmp(wantR) != 0 {
				t.Fatalf("Div(%v, %v): %v, %v, %v, not %v, %v", a, d, q, r, e, wantQ, wantR)
			}
		}
	}
}

// P3.1: nothing beside an error, and d is looked at first, however great the product.
func TestByNought(t *testing.T) {
	var zero api.Int
	for _, a := range edges() {
		if q, r, e := wide.Divide(wide.Product(a, most()), zero); q != (wide.Wide{}) || r != zero || e != api.ErrZero {
			t.Errorf("Divide(%v times the most, 0): %v, %v, %v", a, q, r, e)
		}
		if q, r, e := wide.Div(a, zero); q != zero || r != zero || e != api.ErrZero {
			t.Errorf("Div(%v, 0): %v, %v, %v", a, q, r, e)
		}
		for _, b := range edges() {
			if q, e := wide.MulDiv(a, b, zero); q != zero || e != api.ErrZero {
				t.Errorf("MulDiv(%v, %v, 0): %v, %v", a, b, q, e)
			}
			if q, e := wide.MulDivUp(a, b, zero); q != zero || e != api.ErrZero {
				t.Errorf("MulDivUp(%v, %v, 0): %v, %v", a, b, q, e)
			}
		}
	}
}

// P3.1
func TestMulDiv(t *testing.T) {
	l := append(edges(), scatter(12)...)
	for _, a := range l {
		for _, b := range l {
			for _, d := range l[1:] {
				if d == (api.Int{}) {
					continue
				}
				down, r := new(big.Int).QuoRem(new(big.Int).Mul(value(a[:]...), value(b[:]...)), value(d[:]...), new(big.Int))
				if q, e := wide.MulDiv(a, b, d); !fits(q, e, down) {
					t.Fatalf("MulDiv(%v, %v, %v): %v, %v, not %v", a, b, d, q, e, down)
				}
				up := new(big.Int).Add(down, big.NewInt(int64(r.Sign())))
				if q, e := wide.MulDivUp(a, b, d); !fits(q, e, up) {
					t.Fatalf("MulDivUp(%v, %v, %v): %v, %v, not %v", a, b, d, q, e, up)
				}
			}
		}
	}
}

// P3.1
func TestMulDivAtTheEnds(t *testing.T) {
	var zero api.Int
	below, above := api.Int{top, top, 1}, api.Int{1, 0, 2} // 2^129 less 1 and more 1
	for _, c := range []struct {
		a, b, d  api.Int
		down, up api.Int
		e, eUp   api.Errno
	}{
		{huge.Of(7), huge.Of(5), huge.Of(3), huge.Of(11), huge.Of(12), api.OK, api.OK},
		{huge.Of(6), huge.Of(5), huge.Of(3), huge.Of(10), huge.Of(10), api.OK, api.OK},
		{zero, most(), huge.Of(1), zero, zero, api.OK, api.OK},
		{huge.Of(1), huge.Of(1), most(), zero, huge.Of(1), api.OK, api.OK},
		{most(), most(), most(), most(), most(), api.OK, api.OK},
		{most(), huge.Of(2), huge.Of(2), most(), most(), api.OK, api.OK},
		{most(), huge.Of(2), huge.Of(1), zero, zero, api.ErrOverflow, api.ErrOverflow},
		{most(), most(), huge.Of(1), zero, zero, api.ErrOverflow, api.ErrOverflow},
		{api.Int{0, 0, 0, 1 << 63}, huge.Of(2), huge.Of(1), zero, zero, api.ErrOverflow, api.ErrOverflow},
		{most(), most(), api.Int{top - 1, top, top, top}, zero, zero, api.ErrOverflow, api.ErrOverflow},
		{below, above, huge.Of(4), most(), zero, api.OK, api.ErrOverflow}, // 2^256 less a quarter: only rounded up it is too great
	} {
		if q, e := wide.MulDiv(c.a, c.b, c.d); q != c.down || e != c.e {
			t.Errorf("MulDiv(%v, %v, %v): %v, %v", c.a, c.b, c.d, q, e)
		}
		if q, e := wide.MulDivUp(c.a, c.b, c.d); q != c.up || e != c.eUp {
			t.Errorf("MulDivUp(%v, %v, %v): %v, %v", c.a, c.b, c.d, q, e)
		}
	}
}

// P3.2: by the layers' own sums and products.
func TestQuotientAndRestAreWhole(t *testing.T) {
	l := numbers(60)
	for _, a := range l {
		for _, d := range l {
			if d == (api.Int{}) {
				continue
			}
			q, r, e := wide.Div(a, d)
			p, ep := huge.Mul(q, d)
			sum, es := huge.Add(p, r)
			if e != api.OK || ep != api.OK || es != api.OK || sum != a || huge.Cmp(r, d) >= 0 {
				t.Fatalf("Div(%v, %v): %v, %v, %v", a, d, q, r, e)
			}
		}
	}
	for i, n := range wides(l) {
		d := l[i%len(l)]
		if d == (api.Int{}) {
			continue
		}
		q, r, e := wide.Divide(n, d)
		sum := new(big.Int).Mul(value(q[:]...), value(d[:]...))
		sum.Add(sum, value(r[:]...))
		if e != api.OK || sum.Cmp(value(n[:]...)) != 0 || huge.Cmp(r, d) >= 0 {
			t.Fatalf("Divide(%v, %v): %v, %v, %v", n, d, q, r, e)
		}
	}
}
