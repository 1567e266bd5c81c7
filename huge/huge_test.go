package huge_test

import (
	"math/big"
	"strings"
	"testing"

	"sponsion/api"
	"sponsion/huge"
)

const (
	top       = 1<<64 - 1
	mostText  = "115792089237316195423570985008687907853269984665640564039457584007913129639935"
	overText  = "115792089237316195423570985008687907853269984665640564039457584007913129639936" // just 2^256
	tenTo77   = "100000000000000000000000000000000000000000000000000000000000000000000000000000"
	halfText  = "57896044618658097711785492504343953926634992332820282019728792003956564819968" // 2^255
	limbText  = "18446744073709551615"                                                          // 2^64 - 1
	aboveText = "18446744073709551616"                                                          // 2^64
)

func most() api.Int { return api.Int{top, top, top, top} }

// edges: numbers at both ends, and where a limb turns over.
func edges() []api.Int {
	l := []api.Int{{}, most(), {top - 1, top, top, top}, {0, top, top, top}, {top, 0, top, 0}, {0, 1, 0, 1}}
	for i := range 4 {
		var one, full, half, below api.Int
		one[i], full[i], half[i] = 1, top, 1<<63
		for j := range i + 1 {
			below[j] = top
		}
		l = append(l, one, full, half, below)
	}
	return append(l, huge.Of(2), huge.Of(3), huge.Of(10), api.Int{1, 1, 1, 1}, api.Int{0, 0, 1 << 32}, api.Int{1, 0, 0, 1 << 63})
}

// scatter: n numbers of all lengths, the same at each run.
func scatter(n int) []api.Int {
	l := make([]api.Int, n)
	x := uint64(88172645463325252)
	for i := range l {
		for j := range 1 + i%4 {
			x ^= x << 13
			x ^= x >> 7
			x ^= x << 17
			l[i][j] = x >> (x * 0x9e3779b97f4a7c15 >> 58)
		}
	}
	return l
}

func numbers(n int) []api.Int { return append(edges(), scatter(n)...) }

// whole: a number's value, by its limbs alone.
func whole(a api.Int) *big.Int {
	v := new(big.Int)
	for i := 3; i >= 0; i-- {
		v.Lsh(v, 64).Or(v, new(big.Int).SetUint64(a[i]))
	}
	return v
}

// same: is this what stands for v, or, if v isn't a number of 256 bits, nothing but ErrOverflow?
func same(got api.Int, e api.Errno, v *big.Int) bool {
	if v.Sign() < 0 || v.BitLen() > 256 {
		return e == api.ErrOverflow && got == api.Int{}
	}
	return e == api.OK && whole(got).Cmp(v) == 0
}

// P2.1
func TestOf(t *testing.T) {
	for _, x := range []uint64{0, 1, 10, 1 << 32, 1 << 63, top} {
		if got := huge.Of(x); got != (api.Int{x, 0, 0, 0}) {
			t.Errorf("Of(%d): %v", x, got)
		}
	}
}

// P2.1: one bit above a limb, in any of the others, is more than a limb.
func TestLow(t *testing.T) {
	for _, x := range []uint64{0, 1, 10, 1 << 32, 1 << 63, top} {
		if got, ok := huge.Low(api.Int{x}); got != x || !ok {
			t.Errorf("Low(%d): %d, %t", x, got, ok)
		}
		for i := 1; i < 4; i++ {
			for _, more := range []uint64{1, 2, 1 << 63, top} {
				a := api.Int{x}
				a[i] = more
				if got, ok := huge.Low(a); got != 0 || ok {
					t.Errorf("Low(%v): %d, %t; want 0, false", a, got, ok)
				}
			}
		}
	}
}

// P2.1
func TestCmp(t *testing.T) {
	for _, c := range []struct {
		a, b api.Int
		want int
	}{
		{api.Int{}, api.Int{}, 0},
		{api.Int{1}, api.Int{2}, -1},
		{api.Int{2}, api.Int{1}, 1},
		{api.Int{top}, api.Int{0, 1}, -1}, // the higher limb tells, whatever the lower ones are
		{api.Int{0, 1}, api.Int{top}, 1},
		{api.Int{top, top, top}, api.Int{0, 0, 0, 1}, -1},
		{api.Int{1, 2, 3, 1 << 63}, api.Int{1, 2, 3, 1<<63 - 1}, 1}, // no limb has a sign
		{api.Int{1, 2, 3, 4}, api.Int{1, 2, 3, 4}, 0},
		{most(), most(), 0},
		{most(), api.Int{}, 1},
	} {
		if got := huge.Cmp(c.a, c.b); got != c.want {
			t.Errorf("Cmp(%v, %v): %d; want %d", c.a, c.b, got, c.want)
		}
	}
	l := numbers(80)
	for _, a := range l {
		for _, b := range l {
			if got, want := huge.Cmp(a, b), whole(a).Cmp(whole(b)); got != want {
				t.Fatalf("Cmp(%v, %v): %d; want %d", a, b, got, want)
			}
		}
	}
}

// P2.1
func TestAddSubMulAtTheirEnds(t *testing.T) {
	type operation func(a, b api.Int) (api.Int, api.Errno)
	for _, c := range []struct {
		name string
		do   operation
		a, b api.Int
		want api.Int
		e    api.Errno
	}{
		{"Add", huge.Add, api.Int{2}, api.Int{3}, api.Int{5}, api.OK},
		{"Add", huge.Add, api.Int{top, top, top}, api.Int{1}, api.Int{0, 0, 0, 1}, api.OK}, // a carry through all limbs
		{"Add", huge.Add, api.Int{top - 1, top, top, top}, api.Int{1}, most(), api.OK},     // just below 2^256
		{"Add", huge.Add, most(), api.Int{}, most(), api.OK},
		{"Add", huge.Add, most(), api.Int{1}, api.Int{}, api.ErrOverflow}, // just 2^256
		{"Add", huge.Add, api.Int{0, 0, 0, 1 << 63}, api.Int{0, 0, 0, 1 << 63}, api.Int{}, api.ErrOverflow},
		{"Add", huge.Add, most(), most(), api.Int{}, api.ErrOverflow},
		{"Sub", huge.Sub, api.Int{5}, api.Int{3}, api.Int{2}, api.OK},
		{"Sub", huge.Sub, api.Int{0, 0, 0, 1}, api.Int{1}, api.Int{top, top, top}, api.OK}, // a borrow through all limbs
		{"Sub", huge.Sub, most(), most(), api.Int{}, api.OK},                               // just 0
		{"Sub", huge.Sub, api.Int{}, api.Int{}, api.Int{}, api.OK},
		{"Sub", huge.Sub, api.Int{1}, api.Int{2}, api.Int{}, api.ErrOverflow}, // just below 0
		{"Sub", huge.Sub, api.Int{}, most(), api.Int{}, api.ErrOverflow},
		{"Sub", huge.Sub, api.Int{top, top, top}, api.Int{0, 0, 0, 1}, api.Int{}, api.ErrOverflow},
		{"Mul", huge.Mul, api.Int{6}, api.Int{7}, api.Int{42}, api.OK},
		{"Mul", huge.Mul, api.Int{}, most(), api.Int{}, api.OK},
		{"Mul", huge.Mul, most(), api.Int{}, api.Int{}, api.OK},
		{"Mul", huge.Mul, most(), api.Int{1}, most(), api.OK},
		{"Mul", huge.Mul, api.Int{1}, most(), most(), api.OK},
		{"Mul", huge.Mul, api.Int{0, 1}, api.Int{0, 0, 1}, api.Int{0, 0, 0, 1}, api.OK},
		{"Mul", huge.Mul, api.Int{top, top}, api.Int{1, 0, 1}, most(), api.OK}, // just below 2^256
		{"Mul", huge.Mul, api.Int{0, 0, 1}, api.Int{0, 0, 1}, api.Int{}, api.ErrOverflow},
		{"Mul", huge.Mul, api.Int{0, 0, 0, 1 << 63}, api.Int{2}, api.Int{}, api.ErrOverflow}, // just 2^256
		{"Mul", huge.Mul, api.Int{2}, api.Int{0, 0, 0, 1 << 63}, api.Int{}, api.ErrOverflow},
		{"Mul", huge.Mul, api.Int{0, 0, 0, 1}, api.Int{0, 0, 0, 1}, api.Int{}, api.ErrOverflow},
		{"Mul", huge.Mul, api.Int{0, 0, 0, 1 << 32}, api.Int{0, 0, 0, 1 << 32}, api.Int{}, api.ErrOverflow}, // only the eighth limb isn't 0
		{"Mul", huge.Mul, most(), most(), api.Int{}, api.ErrOverflow},
	} {
		if got, e := c.do(c.a, c.b); got != c.want || e != c.e {
			t.Errorf("%s(%v, %v): %v, %d; want %v, %d", c.name, c.a, c.b, got, e, c.want, c.e)
		}
	}
}

// P2.1, and beside an error nothing (P2.3)
func TestAddSubMulAreWhole(t *testing.T) {
	l := numbers(120)
	for _, a := range l {
		for _, b := range l {
			x, y := whole(a), whole(b)
			if got, e := huge.Add(a, b); !same(got, e, new(big.Int).Add(x, y)) {
				t.Fatalf("Add(%v, %v): %v, %d", a, b, got, e)
			}
			if got, e := huge.Sub(a, b); !same(got, e, new(big.Int).Sub(x, y)) {
				t.Fatalf("Sub(%v, %v): %v, %d", a, b, got, e)
			}
			if got, e := huge.Mul(a, b); !same(got, e, new(big.Int).Mul(x, y)) {
				t.Fatalf("Mul(%v, %v): %v, %d", a, b, got, e)
			}
		}
	}
}

// P2.1
func TestSum(t *testing.T) {
	half := api.Int{0, 0, 0, 1 << 63}
	for _, c := range []struct {
		l    []api.Int
		want api.Int
		e    api.Errno
	}{
		{nil, api.Int{}, api.OK}, // of none
		{[]api.Int{}, api.Int{}, api.OK},
		{[]api.Int{{7}}, api.Int{7}, api.OK},
		{[]api.Int{most()}, most(), api.OK},
		{[]api.Int{{1}, {2}, {3}, {0, 0, 4}}, api.Int{6, 0, 4}, api.OK},
		{[]api.Int{{top, top, top, top >> 1}, half}, most(), api.OK}, // just below 2^256
		{[]api.Int{{}, most(), {}}, most(), api.OK},
		{[]api.Int{half, half}, api.Int{}, api.ErrOverflow}, // just 2^256
		{[]api.Int{most(), {1}}, api.Int{}, api.ErrOverflow},
		{[]api.Int{half, half, {5}}, api.Int{}, api.ErrOverflow}, // what follows doesn't hide it
		{[]api.Int{{1}, {2}, {3}, most()}, api.Int{}, api.ErrOverflow},
		{[]api.Int{half, half, half, half}, api.Int{}, api.ErrOverflow},
	} {
		if got, e := huge.Sum(c.l...); got != c.want || e != c.e {
			t.Errorf("Sum(%v): %v, %d; want %v, %d", c.l, got, e, c.want, c.e)
		}
	}
	if got, e := huge.Sum(); got != (api.Int{}) || e != api.OK {
		t.Errorf("Sum(): %v, %d", got, e)
	}
}

// P2.1: all of them count, and what is handed in stays as it was, the room behind it too (R4).
func TestSumOfMany(t *testing.T) {
	full := scatter(400)
	for i := range full {
		full[i][3] >>= 10 // so that they have room together
	}
	kept := append([]api.Int(nil), full...)
	want := new(big.Int)
	for i := range full {
		if got, e := huge.Sum(full[:i]...); !same(got, e, want) {
			t.Fatalf("Sum of %d: %v, %d; want %v", i, got, e, want)
		}
		want.Add(want, whole(full[i]))
	}
	for i := range full {
		if full[i] != kept[i] {
			t.Fatalf("number %d was changed", i)
		}
	}
}

// P2.1
func TestShort(t *testing.T) {
	for _, c := range []struct {
		a api.Int
		y uint64
		q api.Int
		r uint64
		e api.Errno
	}{
		{api.Int{}, 1, api.Int{}, 0, api.OK},
		{api.Int{42}, 5, api.Int{8}, 2, api.OK},
		{api.Int{4}, 5, api.Int{}, 4, api.OK},
		{api.Int{5, 1}, 10, api.Int{1844674407370955162}, 1, api.OK},
		{api.Int{0, 0, 0, 1}, 2, api.Int{0, 0, 1 << 63}, 0, api.OK},
		{most(), 1, most(), 0, api.OK},
		{most(), top, api.Int{1, 1, 1, 1}, 0, api.OK},
		{api.Int{top - 1, 0, 0, top}, top, api.Int{0, 0, 0, 1}, top - 1, api.OK}, // the most that can be left
		{api.Int{}, 0, api.Int{}, 0, api.ErrZero},
		{api.Int{7}, 0, api.Int{}, 0, api.ErrZero},
		{most(), 0, api.Int{}, 0, api.ErrZero},
	} {
		if q, r, e := huge.Short(c.a, c.y); q != c.q || r != c.r || e != c.e {
			t.Errorf("Short(%v, %d): %v, %d, %d; want %v, %d, %d", c.a, c.y, q, r, e, c.q, c.r, c.e)
		}
	}
}

// P2.1
func TestShortIsWhole(t *testing.T) {
	for _, a := range numbers(200) {
		for _, d := range numbers(40) {
			y := d[0]
			if y == 0 {
				continue
			}
			wantQ, wantR := new(big.Int).QuoRem(whole(a), new(big.Int).SetUint64(y), new(big.Int))
			q, r, e := huge.Short(a, y)
			if e != api.OK || whole(q).Cmp(wantQ) != 0 || r != wantR.Uint64() {
				t.Fatalf("Short(%v, %d): %v, %d, %d; want %v, %v", a, y, q, r, e, wantQ, wantR)
			}
		}
	}
}

// P2.2
func TestBytes(t *testing.T) {
	if b := huge.Bytes(api.Int{}); b != [32]byte{} {
		t.Errorf("Bytes(0): %v", b)
	}
	var rising [32]byte
	for i := range rising {
		rising[i] = byte(i + 1)
	}
	a := api.Int{0x191a1b1c1d1e1f20, 0x1112131415161718, 0x090a0b0c0d0e0f10, 0x0102030405060708}
	if b := huge.Bytes(a); b != rising {
		t.Errorf("Bytes(%v): %v; want %v", a, b, rising)
	}
	for _, a := range numbers(100) {
		var want [32]byte
		whole(a).FillBytes(want[:])
		if b := huge.Bytes(a); b != want {
			t.Errorf("Bytes(%v): %v; want %v", a, b, want)
		}
	}
}

// P2.2, P2.3: what Bytes writes is read; what is handed in stays as it was, and isn't looked at beyond its end (R4).
func TestReadBytes(t *testing.T) {
	for _, a := range numbers(100) {
		b := huge.Bytes(a)
		room := append(append([]byte(nil), b[:]...), 1, 2, 3)
		if got, e := huge.Read(room[:32]); got != a || e != api.OK {
			t.Errorf("Read(Bytes(%v)): %v, %d", a, got, e)
		}
		if string(room) != string(b[:])+"\x01\x02\x03" {
			t.Errorf("Read changed its bytes: %v", room)
		}
	}
	for bit := range 256 {
		var b [32]byte
		b[31-bit/8] = 1 << (bit % 8)
		want := new(big.Int).Lsh(big.NewInt(1), uint(bit))
		if got, e := huge.Read(b[:]); !same(got, e, want) {
			t.Errorf("Read of bit %d: %v, %d", bit, got, e)
		}
	}
}

// P2.2, P2.3: any other length is refused, and nothing is answered beside the error.
func TestReadErrors(t *testing.T) {
	full := []byte(strings.Repeat("\xff", 100))
	for n := range 100 {
		want := api.ErrShort
		if n > 32 {
			want = api.ErrLong
		}
		if n == 32 {
			continue
		}
		if got, e := huge.Read(full[:n]); got != (api.Int{}) || e != want {
			t.Errorf("Read of %d bytes: %v, %d; want 0, %d", n, got, e, want)
		}
	}
	if got, e := huge.Read(nil); got != (api.Int{}) || e != api.ErrShort {
		t.Errorf("Read(nil): %v, %d", got, e)
	}
}

// P2.2
func TestText(t *testing.T) {
	for _, c := range []struct {
		a    api.Int
		want string
	}{
		{api.Int{}, "0"},
		{api.Int{1}, "1"},
		{api.Int{9}, "9"},
		{api.Int{10}, "10"},
		{api.Int{1000000007}, "1000000007"}, // noughts inside stay
		{api.Int{10000000000000000000}, "10000000000000000000"},
		{api.Int{top}, limbText},
		{api.Int{0, 1}, aboveText},
		{api.Int{0, 0, 0, 1 << 63}, halfText},
		{most(), mostText},
	} {
		if got := huge.Text(c.a); got != c.want {
			t.Errorf("Text(%v): %q; want %q", c.a, got, c.want)
		}
	}
}

// P2.2
func TestParse(t *testing.T) {
	for _, c := range []struct {
		s    string
		want api.Int
	}{
		{"0", api.Int{}},
		{"1", api.Int{1}},
		{"9", api.Int{9}},
		{"10", api.Int{10}},
		{"1000000007", api.Int{1000000007}},
		{limbText, api.Int{top}},
		{aboveText, api.Int{0, 1}}, // the document's example
		{halfText, api.Int{0, 0, 0, 1 << 63}},
		{mostText, most()},
	} {
		if got, e := huge.Parse(c.s); got != c.want || e != api.OK {
			t.Errorf("Parse(%q): %v, %d; want %v", c.s, got, e, c.want)
		}
	}
}

// P2.2, P2.3: a wrong form is told ahead of a number that is too great, whatever the text's length.
func TestParseErrors(t *testing.T) {
	long := strings.Repeat("9", 5000)
	forms := []string{
		"", "00", "01", "007", "-1", "-0", "+1", " 1", "1 ", "1 2", "1\n", "\x00", "1\x00", "a", "0x10", "1e3", "1_000", "1,000", "1.0", ".",
		"/", ":", "1/", "1:", "٣", "１", "1\xff", "0" + mostText, "00" + long, overText + "x", "x" + overText, long + "x", long + " ", long + "/", "-" + long, strings.Repeat("0", 5000),
	}
	for _, s := range forms {
		if got, e := huge.Parse(s); got != (api.Int{}) || e != api.ErrForm {
			t.Errorf("Parse(%.90q): %v, %d; want 0, ErrForm", s, got, e)
		}
	}
	for _, s := range []string{overText, mostText[:77] + "6", mostText[:77] + "9", mostText + "0", "2" + mostText[1:], tenTo77 + "0", strings.Repeat("9", 78), long} {
		if got, e := huge.Parse(s); got != (api.Int{}) || e != api.ErrOverflow {
			t.Errorf("Parse(%.90q): %v, %d; want 0, ErrOverflow", s, got, e)
		}
	}
}

// P2.2: of each byte as a text, and in the midst of one, only a digit is right.
func TestParseTakesDigitsAlone(t *testing.T) {
	for c := range 256 {
		want := api.ErrForm
		if c >= '0' && c <= '9' {
			want = api.OK
		}
		for _, s := range []string{string([]byte{byte(c)}), "1" + string([]byte{byte(c)}) + "1"} {
			if _, e := huge.Parse(s); e != want {
				t.Errorf("Parse(%q): %d; want %d", s, e, want)
			}
		}
	}
}

// P2.2, P2.3: of every number, and about every power of ten, the text is what big numbers say, and is read back.
func TestParseText(t *testing.T) {
	l := numbers(200)
	ten := huge.Of(1)
	for range 77 {
		ten, _ = huge.Mul(ten, huge.Of(10))
		below, _ := huge.Sub(ten, huge.Of(1))
		above, _ := huge.Add(ten, huge.Of(1))
		l = append(l, below, ten, above)
	}
	if huge.Text(ten) != tenTo77 {
		t.Errorf("10^77: %s", huge.Text(ten))
	}
	for _, a := range l {
		s := huge.Text(a)
		if want := whole(a).String(); s != want {
			t.Errorf("Text(%v): %q; want %q", a, s, want)
		}
		if got, e := huge.Parse(s); got != a || e != api.OK {
			t.Errorf("Parse(%q): %v, %d; want %v", s, got, e, a)
		}
	}
}
