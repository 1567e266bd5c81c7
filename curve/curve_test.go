package curve_test

import (
	"math"
	"math/big"
	"math/rand"
	"slices"
	"testing"

	"sponsion/api"
	"sponsion/curve"
)

const (
	whole   = 1_000_000
	maxUint = 1<<64 - 1
	maxRuns = 300
)

// knot is a point in whole numbers, which the model reckons with.
type knot struct{ u, rate int64 }

func complexes(l []knot) []complex128 {
	var out []complex128
	for _, k := range l {
		out = append(out, complex(float64(k.u), float64(k.rate)))
	}
	return out
}

// made: the curve of knots that make one.
func made(t *testing.T, l []knot) curve.Curve {
	t.Helper()
	c, e := curve.New(complexes(l)...)
	if e != api.OK {
		t.Fatalf("New(%v): %v", l, e)
	}
	return c
}

// piece: the first line whose second knot isn't ahead of u.
func piece(l []knot, u int64) (a, b knot) {
	for i := 1; i < len(l); i++ {
		if l[i].u >= u {
			return l[i-1], l[i]
		}
	}
	panic("no piece")
}

// turn: the product's imaginary part, by whole numbers.
func turn(a, b, p knot) int64 {
	return (b.u-a.u)*(p.rate-a.rate) - (b.rate-a.rate)*(p.u-a.u)
}

// rateAt: where the line stands at u, rounded down: by a quotient instead of a search. Nothing in it is below 0.
func rateAt(l []knot, u uint64) uint64 {
	at := int64(min(u, whole))
	a, b := piece(l, at)
	return uint64((a.rate*(b.u-at) + b.rate*(at-a.u)) / (b.u - a.u))
}

func bigOf(a api.Int) *big.Int {
	n := new(big.Int)
	for i := 3; i >= 0; i-- {
		n.Lsh(n, 64).Or(n, new(big.Int).SetUint64(a[i]))
	}
	return n
}

// feeOf: the amount's part, rounded up.
func feeOf(amount api.Int, rate uint64) *big.Int {
	n := new(big.Int).Mul(bigOf(amount), new(big.Int).SetUint64(rate))
	n.Add(n, big.NewInt(whole-1))
	return n.Quo(n, big.NewInt(whole))
}

func rises(l []knot) bool {
	for i := range l[1:] {
		if l[i+1].rate < l[i].rate {
			return false
		}
	}
	return true
}

func bends(l []knot) bool {
	for i := 2; i < len(l); i++ {
		if turn(l[i-2], l[i-1], l[i]) < 0 {
			return false
		}
	}
	return true
}

var amounts = []api.Int{
	{}, {1}, {2}, {9_999}, {10_000}, {10_001}, {whole - 1}, {whole}, {whole + 1}, {maxUint}, {0, 1},
	{0, 0, 0, 1}, {maxUint, maxUint, maxUint, maxUint - 1}, {maxUint - 1, maxUint, maxUint, maxUint}, {maxUint, maxUint, maxUint, maxUint},
}

// holdAt: all that a curve answers at a utilization, against the model.
func holdAt(t *testing.T, c curve.Curve, l []knot, u uint64) {
	t.Helper()
	want := rateAt(l, u)
	if got := c.Rate(u); got != want {
		t.Fatalf("%v: Rate(%d) = %d, not %d", l, u, got, want)
	}
	for _, n := range amounts {
		fee := c.Fee(n, u)
		if bigOf(fee).Cmp(feeOf(n, want)) != 0 {
			t.Fatalf("%v: Fee(%v, %d) = %v, not %v", l, n, u, fee, feeOf(n, want))
		}
		if bigOf(fee).Cmp(bigOf(n)) > 0 {
			t.Fatalf("%v: Fee(%v, %d) = %v is more than the amount", l, n, u, fee)
		}
	}
	if u > whole {
		return
	}
	for _, rate := range []int64{0, 1, int64(want) - 1, int64(want), int64(want) + 1, int64(want) + 2, whole - 1, whole} {
		a, b := piece(l, int64(u))
		above := rate >= 0 && rate <= whole && turn(a, b, knot{int64(u), rate}) > 0
		if got := c.Above(complex(float64(u), float64(rate))); got != above {
			t.Fatalf("%v: Above(%d+%di) = %v", l, u, rate, got)
		}
	}
}

// hold: a curve, against the model, at its knots and about them, beyond the end, and at some other utilizations.
func hold(t *testing.T, c curve.Curve, l []knot, r *rand.Rand) {
	t.Helper()
	if got := c.Knots(); !slices.Equal(got, complexes(l)) {
		t.Fatalf("Knots = %v, not %v", got, l)
	}
	if c.Rises() != rises(l) || c.Bends() != bends(l) {
		t.Fatalf("%v: Rises %v, Bends %v", l, c.Rises(), c.Bends())
	}
	at := []uint64{whole + 1, whole + whole/2, 1 << 32, 1<<53 + 1, 1 << 63, maxUint - 1, maxUint}
	for _, k := range l {
		for _, d := range []int64{-2, -1, 0, 1, 2} {
			at = append(at, uint64(max(k.u+d, 0)))
		}
	}
	for range 20 {
		at = append(at, uint64(r.Intn(whole+1)))
	}
	for _, u := range at {
		holdAt(t, c, l, u)
	}
}

var curves = [][]knot{
	{{0, 100}, {whole, 300}},
	{{0, 0}, {whole, 0}},
	{{0, whole}, {whole, whole}},
	{{0, 0}, {whole, whole}},
	{{0, whole}, {whole, 0}},
	{{0, 0}, {1, whole}, {whole, whole}},
	{{0, 0}, {whole - 1, 0}, {whole, whole}},
	{{0, whole}, {1, 0}, {whole, whole}},
	{{0, 0}, {1, 1}, {2, 2}, {whole, whole}},
	{{0, 0}, {1, 1}, {2, 2}, {whole, whole - 1}},
	{{0, 0}, {333_333, 1}, {666_666, 2}, {whole, 3}},
	{{0, 500}, {800_000, 5_000}, {whole, 100_000}},
	{{0, 10}, {500_000, 0}, {whole, 10}},
	{{0, 0}, {500_000, 10}, {whole, 0}},
	{{0, 1}, {1, 3}, {2, 2}, {3, 2}, {4, 5}, {5, 4}, {6, 4}, {whole, 9}},
	{{0, 0}, {1, 0}, {2, 0}, {3, 0}, {4, 0}, {5, 0}, {999_999, 0}, {whole, 1}},
	{{0, 7}, {1, 7}, {2, 7}, {3, 7}, {4, 7}, {5, 7}, {6, 6}, {whole, 6}},
}

// chance: knots that make a curve.
func chance(r *rand.Rand) []knot {
	n := 2 + r.Intn(7)
	span, high := 1+r.Intn(whole-1), 1+r.Intn(whole)
	if r.Intn(2) == 0 {
		span, high = 10+r.Intn(20), 1+r.Intn(20)
	}
	taken := map[int64]bool{0: true, whole: true}
	for tries := 0; len(taken) < n && tries < 100; tries++ {
		taken[int64(r.Intn(span))] = true
	}
	var at []int64
	for u := range taken {
		at = append(at, u)
	}
	slices.Sort(at)
	var l []knot
	for _, u := range at {
		l = append(l, knot{u, int64(r.Intn(high + 1))})
	}
	if r.Intn(3) == 0 {
		slices.SortFunc(l, func(a, b knot) int { return int(a.rate - b.rate) })
		for i := range l {
			l[i].u = at[i]
		}
	}
	return l
}

// The document's examples, and one of more pieces.
func TestExamples(t *testing.T) {
	c := made(t, []knot{{0, 100}, {whole, 300}})
	if r := c.Rate(500_000); r != 200 {
		t.Error(r)
	}
	if f := c.Fee(api.Int{10_001}, 500_000); f != (api.Int{3}) {
		t.Error(f)
	}
	c = made(t, []knot{{0, 500}, {800_000, 5_000}, {whole, 100_000}})
	for u, want := range map[uint64]uint64{0: 500, 177: 500, 178: 501, 799_999: 4_999, 800_000: 5_000, 800_001: 5_000, 800_003: 5_001, 900_000: 52_500, 999_999: 99_999, whole: 100_000, whole + 1: 100_000} {
		if got := c.Rate(u); got != want {
			t.Errorf("Rate(%d) = %d, not %d", u, got, want)
		}
	}
}

// P15.1, P15.2: each curve's rates, fees and shape; at its knots and about them, beyond 1000000, and at the numbers' end.
func TestCurves(t *testing.T) {
	r := rand.New(rand.NewSource(15))
	for _, l := range curves {
		hold(t, made(t, l), l, r)
	}
	for range maxRuns {
		l := chance(r)
		hold(t, made(t, l), l, r)
	}
}

// P15.1: each utilization's rate is the greatest that isn't above.
func TestEachUtilization(t *testing.T) {
	for _, l := range [][]knot{curves[0], curves[11], curves[12], curves[4]} {
		c := made(t, l)
		for u := uint64(0); u <= whole; u += 1 + u%3 {
			rate := c.Rate(u)
			if want := rateAt(l, u); rate != want {
				t.Fatalf("%v: Rate(%d) = %d, not %d", l, u, rate, want)
			}
			if c.Above(complex(float64(u), float64(rate))) || rate < whole && !c.Above(complex(float64(u), float64(rate+1))) {
				t.Fatalf("%v: at %d the rate %d isn't the greatest that isn't above", l, u, rate)
			}
		}
	}
}

// P15.1: New's ErrForm, with a curve that is as a zero one.
func TestNoCurve(t *testing.T) {
	inf, nan := math.Inf(1), math.NaN()
	middles := []complex128{0, whole, 0.5, 1 + 0.5i, -1, -1i, 5 - 1i, 5 + 1e-9i, whole + 1, 5 + (whole+1)*1i, 1e300, 5 + 1e300i,
		complex(inf, 0), complex(-inf, 0), complex(nan, 0), complex(5, inf), complex(5, -inf), complex(5, nan), complex(nan, nan),
		complex(1-0x1p-53, 1), complex(math.SmallestNonzeroFloat64, 1), complex(5, math.SmallestNonzeroFloat64), complex(math.Nextafter(whole, 0), 1)}
	wrong := [][]complex128{
		nil, {}, {0}, {whole}, {0, whole - 1}, {1, whole}, {0, whole + 1}, {-1, whole}, {whole, 0}, {0, 0}, {whole, whole},
		{0.5, whole}, {0, whole - 0.5}, {0, whole + 0.5}, {-0.5, whole},
		{0, (whole + 1) * 1i, whole}, {(whole + 1) * 1i, whole}, {0, whole + (whole+1)*1i}, {-1i, whole}, {0, whole - 1i}, {0.5i, whole}, {0, whole + 0.5i},
		{0, 5, 5, whole}, {0, 5, 4, whole}, {0, 5 + 1i, 5 + 2i, whole}, {0, 0, whole}, {0, whole, whole}, {0, whole, 5}, {5, 0, whole}, {0, 5, whole, 6},
		{0, 1, 2, 3, 4, 5, 6, 7, whole}, {0, 1, 2, 3, 4, 5, 6, whole, whole}, {0, 1, 2, 3, 4, 5, 6, 7},
		{complex(nan, 0), whole}, {0, complex(nan, 0)}, {0, complex(inf, 0)}, {complex(-inf, 0), whole}, {complex(0, nan), whole}, {0, complex(whole, inf)},
		make([]complex128, 1000),
	}
	for _, m := range middles {
		wrong = append(wrong, []complex128{0, m, whole})
	}
	for _, l := range wrong {
		c, e := curve.New(l...)
		if e != api.ErrForm {
			t.Errorf("New(%v): %v", l, e)
		}
		holdZero(t, c)
	}
}

// holdZero: what a zero Curve answers.
func holdZero(t *testing.T, c curve.Curve) {
	t.Helper()
	if len(c.Knots()) != 0 || !c.Rises() || !c.Bends() {
		t.Errorf("zero Curve: Knots %v, Rises %v, Bends %v", c.Knots(), c.Rises(), c.Bends())
	}
	for _, u := range []uint64{0, 1, whole, whole + 1, maxUint} {
		if r := c.Rate(u); r != 0 {
			t.Errorf("zero Curve: Rate(%d) = %d", u, r)
		}
		for _, n := range amounts {
			if f := c.Fee(n, u); f != (api.Int{}) {
				t.Errorf("zero Curve: Fee(%v, %d) = %v", n, u, f)
			}
		}
	}
	for _, p := range []complex128{0, 1i, 5, whole, whole * 1i, whole + whole*1i, -1, 0.5, complex(math.NaN(), 1)} {
		if c.Above(p) {
			t.Errorf("zero Curve: Above(%v)", p)
		}
	}
}

// P15.1, P15.2: a zero Curve.
func TestZeroCurve(t *testing.T) { holdZero(t, curve.Curve{}) }

// P15.1: as many knots as may be, both ends of each part, and noughts with a sign.
func TestMostKnots(t *testing.T) {
	l := []knot{{0, whole}, {1, 0}, {2, whole}, {3, 0}, {4, 1}, {999_998, 2}, {999_999, whole}, {whole, 0}}
	c := made(t, l)
	hold(t, c, l, rand.New(rand.NewSource(8)))
	minus := math.Copysign(0, -1)
	c, e := curve.New(complex(minus, minus), complex(5, minus), complex(whole, 7))
	if e != api.OK {
		t.Fatal(e)
	}
	hold(t, c, []knot{{0, 0}, {5, 0}, {whole, 7}}, rand.New(rand.NewSource(9)))
}

// P15.1: a point whose parts aren't whole numbers from 0 to 1000000 isn't above.
func TestAboveOfNoPoint(t *testing.T) {
	c := made(t, []knot{{0, 0}, {500_000, 0}, {whole, 10}})
	inf, nan := math.Inf(1), math.NaN()
	for _, p := range []complex128{
		5 + 0.5i, 5 + 20.5i, 5.5 + 20i, -1 + 20i, 5 + (whole+1)*1i, whole + 1 + 20i, whole + 0.5 + 20i, -0.5 + 20i, 5 + 1e300i, 1e300 + 20i,
		5 - 1i, complex(5, inf), complex(inf, 20), complex(-inf, 20), complex(5, nan), complex(nan, 20), complex(nan, nan), complex(inf, inf),
		complex(5, math.Nextafter(whole, 2*whole)), complex(math.Nextafter(5, 6), 20), complex(math.Nextafter(0, -1), 20),
	} {
		if c.Above(p) {
			t.Errorf("Above(%v)", p)
		}
	}
	for _, p := range []complex128{5 + 1i, 1i, whole * 1i, whole + 11i, whole + whole*1i, 500_000 + 1i, 750_000 + 6i, complex(math.Copysign(0, -1), 1)} {
		if !c.Above(p) {
			t.Errorf("not Above(%v)", p)
		}
	}
	for _, p := range []complex128{0, 5, 500_000, 750_000 + 5i, 750_000, whole + 10i, whole} {
		if c.Above(p) {
			t.Errorf("Above(%v)", p)
		}
	}
}

// P15.1: steep pieces, and the knots where they meet.
func TestMeetingPieces(t *testing.T) {
	l := []knot{{0, 0}, {1, whole}, {2, 0}, {whole, 0}}
	c := made(t, l)
	for u, want := range []uint64{0, whole, 0, 0} {
		if got := c.Rate(uint64(u)); got != want {
			t.Errorf("Rate(%d) = %d", u, got)
		}
	}
	if c.Above(1+whole*1i) || !c.Above(1i) || !c.Above(2+1i) || c.Above(2) {
		t.Error("about the top")
	}
}

// P15.2: shapes by hand: even ones rise, straight ones bend; each knot behind the first two may lie below.
func TestShapes(t *testing.T) {
	for _, x := range []struct {
		l            []knot
		rises, bends bool
	}{
		{[]knot{{0, 5}, {whole, 5}}, true, true},
		{[]knot{{0, 5}, {whole, 4}}, false, true},
		{[]knot{{0, 5}, {whole, 6}}, true, true},
		{[]knot{{0, 0}, {500_000, 5}, {whole, 10}}, true, true},
		{[]knot{{0, 0}, {500_000, 5}, {whole, 9}}, true, false},
		{[]knot{{0, 0}, {500_000, 5}, {whole, 11}}, true, true},
		{[]knot{{0, 10}, {500_000, 5}, {whole, 0}}, false, true},
		{[]knot{{0, 10}, {500_000, 4}, {whole, 0}}, false, true},
		{[]knot{{0, 10}, {500_000, 6}, {whole, 0}}, false, false},
		{[]knot{{0, 0}, {1, 0}, {2, 1}, {3, 1}, {whole, 9}}, true, false},
		{[]knot{{0, 0}, {1, 0}, {2, 1}, {3, 2}, {4, 2}, {whole, whole}}, true, false},
		{[]knot{{0, 0}, {1, 0}, {2, 1}, {3, 2}, {4, 3}, {whole, whole - 1}}, true, true},
		{[]knot{{0, 0}, {1, 0}, {2, 1}, {3, 2}, {4, 3}, {whole, whole - 2}}, true, false},
		{[]knot{{0, 3}, {1, 2}, {2, 2}, {whole, 2}}, false, true},
		{[]knot{{0, 3}, {1, 4}, {2, 4}, {3, 3}, {whole, 9}}, false, false},
	} {
		c := made(t, x.l)
		if c.Rises() != x.rises || c.Bends() != x.bends {
			t.Errorf("%v: Rises %v, Bends %v", x.l, c.Rises(), c.Bends())
		}
	}
}

// P15.3: where a curve rises, neither Rate nor Fee falls; no fee is more than the amount (held in holdAt, too).
func TestRising(t *testing.T) {
	r := rand.New(rand.NewSource(153))
	seen := 0
	for range maxRuns {
		l := chance(r)
		c := made(t, l)
		if !c.Rises() {
			continue
		}
		seen++
		var at []uint64
		for range 50 {
			at = append(at, uint64(r.Intn(whole+100)))
		}
		slices.Sort(at)
		for i := 1; i < len(at); i++ {
			if c.Rate(at[i]) < c.Rate(at[i-1]) {
				t.Fatalf("%v: the rate falls from %d to %d", l, at[i-1], at[i])
			}
			for _, n := range amounts {
				if bigOf(c.Fee(n, at[i])).Cmp(bigOf(c.Fee(n, at[i-1]))) < 0 {
					t.Fatalf("%v: the fee of %v falls from %d to %d", l, n, at[i-1], at[i])
				}
			}
		}
	}
	if seen < 20 {
		t.Fatal("few curves rise:", seen)
	}
}

// P15.3, R4: what is handed in isn't changed or kept, its spare room neither, and answers are new memory.
func TestMemory(t *testing.T) {
	room := []complex128{0, 5 + 7i, whole + 9i, 11, 12, 13, 14, 15, 16}
	before := slices.Clone(room)
	c, e := curve.New(room[:3]...)
	if e != api.OK {
		t.Fatal(e)
	}
	if !slices.Equal(room, before) {
		t.Error("New changed", room)
	}
	clear(room)
	first := c.Knots()
	if !slices.Equal(first, before[:3]) {
		t.Error("New kept what it was given:", first)
	}
	first[1] = 99
	_ = append(first, 98)
	if got := c.Knots(); !slices.Equal(got, before[:3]) {
		t.Error("Knots isn't new memory:", got)
	}
	other, _ := curve.New(0, whole)
	if got := c.Knots(); !slices.Equal(got, before[:3]) || len(other.Knots()) != 2 {
		t.Error("another curve tells:", got)
	}
	if c.Rate(5) != 7 || c.Rate(whole) != 9 {
		t.Error("rates:", c.Rate(5), c.Rate(whole))
	}
}
