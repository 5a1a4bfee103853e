package wide_test

import (
	"bytes"
	"math"
	"math/big"
	"strings"
	"testing"

	"masthead/api"
	"masthead/wide"
)

// all is a word whose bits are all set.
const all = uint64(math.MaxUint64)

// whole is 2^256.
var whole = new(big.Int).Lsh(big.NewInt(1), 256)

// value is what the chapter says that an integer stands for, worked out from its words.
func value(a wide.U) *big.Int {
	v := new(big.Int)
	for i, word := range a {
		v.Add(v, new(big.Int).Lsh(new(big.Int).SetUint64(word), uint(64*i)))
	}
	return v
}

// modulo is the integer for a value modulo 2^256, worked out from its digits in base 2.
func modulo(v *big.Int) wide.U {
	v = new(big.Int).Mod(v, whole)
	var a wide.U
	for i := range 256 {
		a[i/64] |= uint64(v.Bit(i)) << (i % 64)
	}
	return a
}

// scattered are n words with bits in all places, other ones for each seed.
func scattered(n int, seed uint64) []uint64 {
	l := make([]uint64, n)
	x := seed*0x9e3779b97f4a7c15 + 1
	for i := range l {
		x ^= x << 13
		x ^= x >> 7
		x ^= x << 17
		l[i] = x * 0x2545f4914f6cdd1d
	}
	return l
}

// random are n integers of one to four words with bits in all places.
func random(n int, seed uint64) []wide.U {
	l := make([]wide.U, n)
	words := scattered(4*n, seed)
	for i := range l {
		copy(l[i][:i%4+1], words[4*i:])
	}
	return l
}

// edges are integers of all lengths: each power of two and one less, words that are empty or full, and scattered ones.
func edges() []wide.U {
	var l []wide.U
	for bit := range 256 {
		power := new(big.Int).Lsh(big.NewInt(1), uint(bit))
		l = append(l, modulo(power), modulo(new(big.Int).Sub(power, big.NewInt(1))))
	}
	for pattern := range 81 {
		var a wide.U
		for i := range a {
			a[i] = [3]uint64{0, 1, all}[pattern%3]
			pattern /= 3
		}
		l = append(l, a)
	}
	return append(l, random(120, 1)...)
}

// few are some of the edges, for calls on each pair of them.
func few() []wide.U {
	var l []wide.U
	for pattern := range 256 {
		var a wide.U
		for i := range a {
			a[i] = [4]uint64{0, 1, 1 << 63, all}[pattern%4]
			pattern /= 4
		}
		l = append(l, a)
	}
	return append(l, random(100, 2)...)
}

// narrow are factors and divisors of one word: 0, 1, the greatest, powers of two and one less and more, and others.
func narrow() []uint64 {
	l := []uint64{0, 3, 7, 10, 1000, all - 1, all}
	for bit := range 64 {
		l = append(l, 1<<bit-1, 1<<bit, 1<<bit+1)
	}
	return append(l, scattered(20, 3)...)
}

// different is a hash whose 32 bytes are all different.
func different() api.Hash {
	var h api.Hash
	for i := range h {
		h[i] = byte(7*i + 0x81)
	}
	return h
}

// P4.1: the examples of the chapter.
func TestExamples(t *testing.T) {
	if got := wide.Of(1).Shl(255).Len(); got != 256 {
		t.Errorf("Of(1).Shl(255).Len() is %d, want 256", got)
	}
	const greatest = "115792089237316195423570985008687907853269984665640564039457584007913129639935"
	if got := wide.Max().Text(); got != greatest || len(got) != 78 {
		t.Errorf("Max().Text() is %q, want %q", got, greatest)
	}
}

// P4.1: Of has its word first, and no others; Max has all bits.
func TestOfAndMax(t *testing.T) {
	for _, n := range narrow() {
		if got := wide.Of(n); got != (wide.U{n, 0, 0, 0}) {
			t.Errorf("Of(%d) is %v", n, got)
		}
	}
	for range 2 {
		greatest := wide.Max()
		if greatest != (wide.U{all, all, all, all}) {
			t.Errorf("Max() is %v", greatest)
		}
		greatest[2] = 5 // the next answer is a new one
	}
}

// P4.1: Little and Bytes whose answers are written out.
func TestBytesByHand(t *testing.T) {
	h := api.Hash{
		0x01, 0x02, 0x03, 0x04, 0x05, 0x06, 0x07, 0x08, 0x19, 0x1a, 0x1b, 0x1c, 0x1d, 0x1e, 0x1f, 0x20,
		0x31, 0x32, 0x33, 0x34, 0x35, 0x36, 0x37, 0x38, 0xc9, 0xca, 0xcb, 0xcc, 0xcd, 0xce, 0xcf, 0xd0,
	}
	a := wide.U{0x0807060504030201, 0x201f1e1d1c1b1a19, 0x3837363534333231, 0xd0cfcecdcccbcac9}
	if got := wide.Little(h); got != a {
		t.Errorf("Little(%x) is %x, want %x", h, got, a)
	}
	if got := a.Bytes(); got != h {
		t.Errorf("Bytes of %x is %x, want %x", a, got, h)
	}
}

// P4.1: the bytes are those of the value, and each of Little and Bytes undoes the other.
func TestBytes(t *testing.T) {
	for _, a := range edges() {
		b := a
		h := a.Bytes()
		reversed := make([]byte, 32)
		for i := range h {
			reversed[31-i] = h[i]
		}
		if new(big.Int).SetBytes(reversed).Cmp(value(a)) != 0 {
			t.Errorf("Bytes of %x is %x", a, h)
		}
		if got := wide.Little(h); got != a || a != b {
			t.Errorf("Little(%x) is %x, want %x", h, got, b)
		}
	}
	hashes := []api.Hash{{}, different(), api.Hash(bytes.Repeat([]byte{0xff}, 32))}
	for i := range 32 {
		var one api.Hash
		one[i] = 0x81
		hashes = append(hashes, one)
	}
	for _, h := range hashes {
		before := h
		if got := wide.Little(h).Bytes(); got != before || h != before {
			t.Errorf("Bytes of Little(%x) is %x", before, got)
		}
	}
}

// P4.1: sums whose carries pass each word, with and without overflow, written out.
func TestAddByHand(t *testing.T) {
	for _, c := range []struct {
		a, b, sum wide.U
		over      bool
	}{
		{wide.U{}, wide.U{}, wide.U{}, false},
		{wide.U{1, 2, 3, 4}, wide.U{10, 20, 30, 40}, wide.U{11, 22, 33, 44}, false},
		{wide.U{all}, wide.U{1}, wide.U{0, 1}, false},
		{wide.U{0, all}, wide.U{0, 1}, wide.U{0, 0, 1}, false},
		{wide.U{0, 0, all}, wide.U{0, 0, 1}, wide.U{0, 0, 0, 1}, false},
		{wide.U{0, 0, 0, all}, wide.U{0, 0, 0, 1}, wide.U{}, true},
		{wide.U{all, all}, wide.U{1}, wide.U{0, 0, 1}, false},
		{wide.U{all, all, all}, wide.U{1}, wide.U{0, 0, 0, 1}, false},
		{wide.U{all, all, all, all - 1}, wide.U{1}, wide.U{0, 0, 0, all}, false},
		{wide.U{all, all, all, all}, wide.U{}, wide.U{all, all, all, all}, false},
		{wide.U{all, all, all, all}, wide.U{1}, wide.U{}, true},
		{wide.U{1}, wide.U{all, all, all, all}, wide.U{}, true},
		{wide.U{all, all, all, all}, wide.U{all, all, all, all}, wide.U{all - 1, all, all, all}, true},
		{wide.U{0, 0, 0, 1 << 63}, wide.U{7, 0, 0, 1 << 63}, wide.U{7}, true},
		{wide.U{1 << 63, all}, wide.U{1 << 63, all}, wide.U{0, all, 1}, false},
	} {
		if sum, over := c.a.Add(c.b); sum != c.sum || over != c.over {
			t.Errorf("%x.Add(%x) is %x, %v, want %x, %v", c.a, c.b, sum, over, c.sum, c.over)
		}
	}
}

// P4.1: differences whose borrows pass each word, written out.
func TestSubByHand(t *testing.T) {
	for _, c := range []struct {
		a, b, difference wide.U
		greater          bool
	}{
		{wide.U{}, wide.U{}, wide.U{}, false},
		{wide.U{11, 22, 33, 44}, wide.U{10, 20, 30, 40}, wide.U{1, 2, 3, 4}, false},
		{wide.U{0, 1}, wide.U{1}, wide.U{all}, false},
		{wide.U{0, 0, 1}, wide.U{0, 1}, wide.U{0, all}, false},
		{wide.U{0, 0, 0, 1}, wide.U{0, 0, 1}, wide.U{0, 0, all}, false},
		{wide.U{}, wide.U{0, 0, 0, 1}, wide.U{0, 0, 0, all}, true},
		{wide.U{0, 0, 1}, wide.U{1}, wide.U{all, all}, false},
		{wide.U{0, 0, 0, 1}, wide.U{1}, wide.U{all, all, all}, false},
		{wide.U{0, 0, 0, all}, wide.U{1}, wide.U{all, all, all, all - 1}, false},
		{wide.U{}, wide.U{1}, wide.U{all, all, all, all}, true},
		{wide.U{}, wide.U{all, all, all, all}, wide.U{1}, true},
		{wide.U{5}, wide.U{5}, wide.U{}, false},
		{wide.U{5}, wide.U{6}, wide.U{all, all, all, all}, true},
		{wide.U{all, all, all, all}, wide.U{all, all, all, all}, wide.U{}, false},
		{wide.U{all, all, all, all - 1}, wide.U{0, 0, 0, all}, wide.U{all, all, all, all}, true},
	} {
		if difference, greater := c.a.Sub(c.b); difference != c.difference || greater != c.greater {
			t.Errorf("%x.Sub(%x) is %x, %v, want %x, %v", c.a, c.b, difference, greater, c.difference, c.greater)
		}
	}
}

// checkSums holds Add, Sub and Cmp of a pair against their values, and Sub against Add (P4.2).
func checkSums(t *testing.T, a, b wide.U) {
	t.Helper()
	v, w := value(a), value(b)
	x, y := a, b
	total := new(big.Int).Add(v, w)
	sum, over := a.Add(b)
	if sum != modulo(total) || over != (total.Cmp(whole) >= 0) {
		t.Fatalf("%x.Add(%x) is %x, %v", a, b, sum, over)
	}
	difference, greater := a.Sub(b)
	if difference != modulo(new(big.Int).Sub(v, w)) || greater != (w.Cmp(v) > 0) {
		t.Fatalf("%x.Sub(%x) is %x, %v", a, b, difference, greater)
	}
	if got := a.Cmp(b); got != v.Cmp(w) {
		t.Fatalf("%x.Cmp(%x) is %d", a, b, got)
	}
	if back, under := sum.Sub(b); back != a || under != over {
		t.Fatalf("%x.Add(%x).Sub of the same is %x, %v", a, b, back, under)
	}
	if back, above := difference.Add(b); back != a || above != greater {
		t.Fatalf("%x.Sub(%x).Add of the same is %x, %v", a, b, back, above)
	}
	if a != x || b != y {
		t.Fatalf("what was handed in changed from %x, %x to %x, %x", x, y, a, b)
	}
}

// P4.1, P4.2: sums, differences and comparisons of many pairs; subtraction undoes addition.
func TestSums(t *testing.T) {
	for _, a := range few() {
		for _, b := range few() {
			checkSums(t, a, b)
		}
	}
	for _, a := range edges() {
		for _, b := range []wide.U{{}, {1}, a, wide.Max(), {all, all, all}, {0, 0, 0, 1 << 63}} {
			checkSums(t, a, b)
			checkSums(t, b, a)
		}
	}
}

// P4.1: Cmp where one word alone differs, and where a lower word says otherwise than a higher one.
func TestCmp(t *testing.T) {
	for _, a := range append(few(), wide.U{7, 7, 7, 7}) {
		if a.Cmp(a) != 0 {
			t.Errorf("%x is not equal to itself", a)
		}
		for i := range a {
			if a[i] == all {
				continue
			}
			for _, more := range []uint64{a[i] + 1, all} {
				b := a
				b[i] = more
				if a.Cmp(b) != -1 || b.Cmp(a) != 1 {
					t.Errorf("%x and %x, which differ in word %d: %d and %d", a, b, i, a.Cmp(b), b.Cmp(a))
				}
				less := a
				for low := range i { // these say otherwise, but do not decide
					less[low], b[low] = all, 0
				}
				if less.Cmp(b) != -1 || b.Cmp(less) != 1 {
					t.Errorf("%x and %x: word %d does not decide: %d and %d", less, b, i, less.Cmp(b), b.Cmp(less))
				}
			}
		}
	}
}

// P4.1: products whose answers are written out.
func TestMulByHand(t *testing.T) {
	for _, c := range []struct {
		a       wide.U
		n       uint64
		product wide.U
		high    uint64
	}{
		{wide.U{}, 0, wide.U{}, 0},
		{wide.U{}, all, wide.U{}, 0},
		{wide.Max(), 0, wide.U{}, 0},
		{wide.U{1, 2, 3, 4}, 1, wide.U{1, 2, 3, 4}, 0},
		{wide.Max(), 1, wide.Max(), 0},
		{wide.U{1, 2, 3, 4}, 10, wide.U{10, 20, 30, 40}, 0},
		{wide.U{1 << 63}, 2, wide.U{0, 1}, 0},
		{wide.U{0, 1 << 63}, 2, wide.U{0, 0, 1}, 0},
		{wide.U{0, 0, 1 << 63}, 2, wide.U{0, 0, 0, 1}, 0},
		{wide.U{0, 0, 0, 1 << 63}, 2, wide.U{}, 1},
		{wide.U{0, 0, 0, 1 << 63}, all, wide.U{0, 0, 0, 1 << 63}, 1<<63 - 1},
		{wide.Max(), 2, wide.U{all - 1, all, all, all}, 1},
		{wide.U{1}, all, wide.U{all}, 0},
		{wide.U{all}, all, wide.U{1, all - 1}, 0},
		{wide.U{all, all, all}, all, wide.U{1, all, all, all - 1}, 0},
		{wide.Max(), all, wide.U{1, all, all, all}, all - 1},
	} {
		if product, high := c.a.Mul(c.n); product != c.product || high != c.high {
			t.Errorf("%x.Mul(%x) is %x, %x, want %x, %x", c.a, c.n, product, high, c.product, c.high)
		}
	}
}

// checkNarrow holds Mul and Div of a pair against their values, and Div against Mul (P4.2).
func checkNarrow(t *testing.T, a wide.U, n uint64) {
	t.Helper()
	before := a
	v, w := value(a), new(big.Int).SetUint64(n)
	total := new(big.Int).Mul(v, w)
	product, high := a.Mul(n)
	if product != modulo(total) || high != new(big.Int).Rsh(total, 256).Uint64() {
		t.Fatalf("%x.Mul(%x) is %x, %x", a, n, product, high)
	}
	quotient, rest := a.Div(n)
	if a != before {
		t.Fatalf("what was handed in changed from %x to %x", before, a)
	}
	if n == 0 {
		if quotient != (wide.U{}) || rest != 0 {
			t.Fatalf("%x.Div(0) is %x, %x", a, quotient, rest)
		}
		return
	}
	q, r := new(big.Int).QuoRem(v, w, new(big.Int))
	if quotient != modulo(q) || rest != r.Uint64() || rest >= n {
		t.Fatalf("%x.Div(%x) is %x, %x", a, n, quotient, rest)
	}
	back, over := quotient.Mul(n)
	sum, carry := back.Add(wide.Of(rest))
	if sum != a || over != 0 || carry {
		t.Fatalf("%x.Div(%x): quotient times divisor plus remainder is %x, %x, %v", a, n, sum, over, carry)
	}
	if wideQuotient, wideRest := a.Quo(wide.Of(n)); wideQuotient != quotient || wideRest != wide.Of(rest) {
		t.Fatalf("%x.Quo(%x) is %x, %x, but Div is %x, %x", a, n, wideQuotient, wideRest, quotient, rest)
	}
}

// P4.1, P4.2: products and quotients by one word, by 0, by 1 and by the greatest among them.
func TestMulAndDiv(t *testing.T) {
	for _, a := range few() {
		for _, n := range narrow() {
			checkNarrow(t, a, n)
		}
	}
	for _, a := range edges() {
		for _, n := range append([]uint64{0, 1, 2, 10, 1 << 63, all}, a[:]...) {
			checkNarrow(t, a, n)
		}
	}
}

// P4.1: quotients by one word whose answers are written out.
func TestDivByHand(t *testing.T) {
	for _, c := range []struct {
		a        wide.U
		n        uint64
		quotient wide.U
		rest     uint64
	}{
		{wide.U{}, 0, wide.U{}, 0},
		{wide.U{5}, 0, wide.U{}, 0},
		{wide.Max(), 0, wide.U{}, 0},
		{wide.U{}, 7, wide.U{}, 0},
		{wide.U{1, 2, 3, 4}, 1, wide.U{1, 2, 3, 4}, 0},
		{wide.U{5}, 7, wide.U{}, 5},
		{wide.U{7}, 7, wide.U{1}, 0},
		{wide.U{48}, 7, wide.U{6}, 6},
		{wide.U{0, 0, 0, 1}, 2, wide.U{0, 0, 1 << 63}, 0},
		{wide.Max(), 2, wide.U{all, all, all, all >> 1}, 1},
		{wide.Max(), all, wide.U{1, 1, 1, 1}, 0},
		{wide.U{all - 1, all - 1}, all, wide.U{all, 0}, all - 2},
		{wide.U{9, 9, 9, 9}, 3, wide.U{3, 3, 3, 3}, 0},
	} {
		if quotient, rest := c.a.Div(c.n); quotient != c.quotient || rest != c.rest {
			t.Errorf("%x.Div(%x) is %x, %x, want %x, %x", c.a, c.n, quotient, rest, c.quotient, c.rest)
		}
	}
}

// P4.1: quotients by wide integers whose answers are written out.
func TestQuoByHand(t *testing.T) {
	for _, c := range []struct{ a, b, quotient, rest wide.U }{
		{wide.U{}, wide.U{}, wide.U{}, wide.U{}},
		{wide.U{1, 2, 3, 4}, wide.U{}, wide.U{}, wide.U{1, 2, 3, 4}},
		{wide.Max(), wide.U{}, wide.U{}, wide.Max()},
		{wide.U{}, wide.Max(), wide.U{}, wide.U{}},
		{wide.U{1, 2, 3, 4}, wide.U{1}, wide.U{1, 2, 3, 4}, wide.U{}},
		{wide.Max(), wide.U{1}, wide.Max(), wide.U{}},
		{wide.U{1, 2, 3, 4}, wide.U{2, 2, 3, 4}, wide.U{}, wide.U{1, 2, 3, 4}},
		{wide.U{all, all, all}, wide.U{0, 0, 0, 1}, wide.U{}, wide.U{all, all, all}},
		{wide.U{1, 2, 3, 4}, wide.U{1, 2, 3, 4}, wide.U{1}, wide.U{}},
		{wide.U{2, 2, 3, 4}, wide.U{1, 2, 3, 4}, wide.U{1}, wide.U{1}},
		{wide.Max(), wide.Max(), wide.U{1}, wide.U{}},
		{wide.Max(), wide.U{0, 0, 0, 1}, wide.U{all}, wide.U{all, all, all}},
		{wide.Max(), wide.U{0, 0, 1}, wide.U{all, all}, wide.U{all, all}},
		{wide.Max(), wide.U{0, 0, 0, 1 << 63}, wide.U{1}, wide.U{all, all, all, all >> 1}},
		{wide.Max(), wide.U{all, all}, wide.U{1, 0, 1}, wide.U{}},
		{wide.U{7, 0, 0, 12}, wide.U{0, 0, 0, 5}, wide.U{2}, wide.U{7, 0, 0, 2}},
		{wide.U{48}, wide.U{7}, wide.U{6}, wide.U{6}},
	} {
		if quotient, rest := c.a.Quo(c.b); quotient != c.quotient || rest != c.rest {
			t.Errorf("%x.Quo(%x) is %x, %x, want %x, %x", c.a, c.b, quotient, rest, c.quotient, c.rest)
		}
	}
}

// checkQuo holds Quo of a pair against its values, and against the dividend (P4.2).
func checkQuo(t *testing.T, a, b wide.U) {
	t.Helper()
	x, y := a, b
	quotient, rest := a.Quo(b)
	if a != x || b != y {
		t.Fatalf("what was handed in changed from %x, %x to %x, %x", x, y, a, b)
	}
	if b == (wide.U{}) {
		if quotient != (wide.U{}) || rest != a {
			t.Fatalf("%x.Quo(0) is %x, %x", a, quotient, rest)
		}
		return
	}
	q, r := new(big.Int).QuoRem(value(a), value(b), new(big.Int))
	if quotient != modulo(q) || rest != modulo(r) {
		t.Fatalf("%x.Quo(%x) is %x, %x, want %x, %x", a, b, quotient, rest, q, r)
	}
	if rest.Cmp(b) != -1 {
		t.Fatalf("%x.Quo(%x) has the remainder %x, not less than the divisor", a, b, rest)
	}
	back := new(big.Int).Mul(value(quotient), value(b))
	if back.Add(back, value(rest)).Cmp(value(a)) != 0 {
		t.Fatalf("%x.Quo(%x): quotient times divisor plus remainder is %x", a, b, back)
	}
}

// P4.1, P4.2: quotients by 0, by 1, by greater and equal integers, and by those of one to four words.
func TestQuo(t *testing.T) {
	divisors := append([]wide.U{{}, {1}, {2}, {10}, {all}, {0, 1}, {all, all}, {0, 0, 1}, {all, all, all}, {0, 0, 0, 1}, wide.Max()}, random(40, 4)...)
	for _, a := range edges() {
		for _, b := range divisors {
			checkQuo(t, a, b)
		}
		one := wide.Of(1)
		less, _ := a.Sub(one)
		more, _ := a.Add(one)
		for _, b := range []wide.U{a, less, more, a.Shr(1), a.Shr(63), a.Shr(64), a.Shr(65), a.Shr(128)} {
			checkQuo(t, a, b)
		}
	}
	for _, a := range random(60, 5) {
		for _, b := range few() {
			checkQuo(t, a, b)
			checkQuo(t, b, a)
		}
	}
}

// P4.1, P4.2: multiples of a divisor, one less and one more: where the quotient goes one up.
func TestQuoGoesUpByOne(t *testing.T) {
	for _, b := range random(80, 6) {
		for _, n := range []uint64{1, 2, 3, 10, 1 << 32, 1 << 63, all} {
			multiple, high := b.Mul(n)
			if high != 0 || b.Len() < 2 {
				continue
			}
			if quotient, rest := multiple.Quo(b); quotient != wide.Of(n) || rest != (wide.U{}) {
				t.Fatalf("%x.Quo(%x) is %x, %x, want %x, 0", multiple, b, quotient, rest, n)
			}
			less, _ := multiple.Sub(wide.Of(1))
			last, _ := b.Sub(wide.Of(1))
			if quotient, rest := less.Quo(b); quotient != wide.Of(n-1) || rest != last {
				t.Fatalf("%x.Quo(%x) is %x, %x, want %x, %x", less, b, quotient, rest, n-1, last)
			}
			if more, over := multiple.Add(wide.Of(1)); !over {
				if quotient, rest := more.Quo(b); quotient != wide.Of(n) || rest != wide.Of(1) {
					t.Fatalf("%x.Quo(%x) is %x, %x, want %x, 1", more, b, quotient, rest, n)
				}
			}
		}
	}
}

// P4.1: shifts whose answers are written out.
func TestShiftsByHand(t *testing.T) {
	a := wide.U{0x8000000000000001, 0xc000000000000003, 0xe000000000000007, 0xf00000000000000f}
	for _, c := range []struct {
		k           int
		left, right wide.U
	}{
		{math.MinInt, a, a},
		{-256, a, a},
		{-64, a, a},
		{-1, a, a},
		{0, a, a},
		{1, wide.U{2, 0x8000000000000007, 0xc00000000000000f, 0xe00000000000001f}, wide.U{0xc000000000000000, 0xe000000000000001, 0xf000000000000003, 0x7800000000000007}},
		{63, wide.U{1 << 63, 0xc000000000000000, 0xe000000000000001, 0xf000000000000003}, wide.U{0x8000000000000007, 0xc00000000000000f, 0xe00000000000001f, 1}},
		{64, wide.U{0, a[0], a[1], a[2]}, wide.U{a[1], a[2], a[3], 0}},
		{65, wide.U{0, 2, 0x8000000000000007, 0xc00000000000000f}, wide.U{0xe000000000000001, 0xf000000000000003, 0x7800000000000007, 0}},
		{128, wide.U{0, 0, a[0], a[1]}, wide.U{a[2], a[3], 0, 0}},
		{192, wide.U{0, 0, 0, a[0]}, wide.U{a[3], 0, 0, 0}},
		{255, wide.U{0, 0, 0, 1 << 63}, wide.U{1, 0, 0, 0}},
		{256, wide.U{}, wide.U{}},
		{257, wide.U{}, wide.U{}},
		{320, wide.U{}, wide.U{}},
		{math.MaxInt, wide.U{}, wide.U{}},
	} {
		if left, right := a.Shl(c.k), a.Shr(c.k); left != c.left || right != c.right {
			t.Errorf("by %d: %x and %x, want %x and %x", c.k, left, right, c.left, c.right)
		}
	}
}

// P4.1: shifts by all numbers of bits within and about an integer, and by far ones.
func TestShifts(t *testing.T) {
	l := append(random(40, 7), wide.U{}, wide.Of(1), wide.Max(), wide.U{0, 0, 0, 1 << 63}, wide.U{0, all, 0, all})
	for _, a := range l {
		before := a
		for k := -3; k <= 600; k++ {
			bits := uint(max(k, 0))
			if got := a.Shl(k); got != modulo(new(big.Int).Lsh(value(a), bits)) {
				t.Fatalf("%x.Shl(%d) is %x", a, k, got)
			}
			if got := a.Shr(k); got != modulo(new(big.Int).Rsh(value(a), bits)) {
				t.Fatalf("%x.Shr(%d) is %x", a, k, got)
			}
		}
		for _, k := range []int{1 << 16, 1<<16 + 1, 1 << 32, 1<<32 + 64, 1 << 40, 1 << 62, math.MaxInt - 256, math.MaxInt - 63, math.MaxInt - 1, math.MaxInt} {
			if left, right := a.Shl(k), a.Shr(k); left != (wide.U{}) || right != (wide.U{}) {
				t.Fatalf("%x by %d: %x and %x, want 0", a, k, left, right)
			}
		}
		for _, k := range []int{math.MinInt, math.MinInt + 1, math.MinInt + 64, -1 << 62, -1 << 32, -1<<32 + 1, -600, -257, -256, -255, -65, -64, -63, -1} {
			if left, right := a.Shl(k), a.Shr(k); left != a || right != a {
				t.Fatalf("%x by %d: %x and %x, want it itself", a, k, left, right)
			}
		}
		if a != before {
			t.Fatalf("what was handed in changed from %x to %x", before, a)
		}
	}
}

// P4.1: Len of 0, of each power of two and of one less, and of others.
func TestLen(t *testing.T) {
	if (wide.U{}).Len() != 0 || wide.Of(1).Len() != 1 || wide.Max().Len() != 256 {
		t.Errorf("Len of 0, 1 and the greatest: %d, %d, %d", (wide.U{}).Len(), wide.Of(1).Len(), wide.Max().Len())
	}
	for bit := range 256 {
		var power wide.U
		power[bit/64] = 1 << (bit % 64)
		if got := power.Len(); got != bit+1 {
			t.Errorf("Len of 2^%d is %d", bit, got)
		}
		var less wide.U
		for i := range bit {
			less[i/64] |= 1 << (i % 64)
		}
		if got := less.Len(); got != bit {
			t.Errorf("Len of 2^%d - 1 is %d", bit, got)
		}
	}
	for _, a := range edges() {
		before := a
		if got := a.Len(); got != value(a).BitLen() || a != before {
			t.Errorf("Len of %x is %d", before, got)
		}
	}
}

// P4.1: Text of 0, of each digit, of powers of ten and their neighbours, and of the greatest.
func TestText(t *testing.T) {
	for digit := range uint64(10) {
		if got := wide.Of(digit).Text(); got != string(rune('0'+digit)) {
			t.Errorf("Text of %d is %q", digit, got)
		}
	}
	power, nines := wide.Of(1), wide.U{}
	for zeros := range 78 {
		if got, want := power.Text(), "1"+strings.Repeat("0", zeros); got != want {
			t.Errorf("Text of 10^%d is %q", zeros, got)
		}
		if zeros > 0 && nines.Text() != strings.Repeat("9", zeros) {
			t.Errorf("Text of 10^%d - 1 is %q", zeros, nines.Text())
		}
		power, _ = power.Mul(10)
		nines, _ = power.Sub(wide.Of(1))
	}
	for a, want := range map[wide.U]string{
		{}:                   "0",
		{1234567890}:         "1234567890",
		{all}:                "18446744073709551615",
		{0, 1}:               "18446744073709551616",
		{0, 0, 1}:            "340282366920938463463374607431768211456",
		{0, 0, 0, 1}:         "6277101735386680763835789423207666416102355444464034512896",
		{all, all, all, all}: "115792089237316195423570985008687907853269984665640564039457584007913129639935",
	} {
		if got := a.Text(); got != want {
			t.Errorf("Text of %x is %q, want %q", a, got, want)
		}
	}
	for _, a := range edges() {
		before := a
		if got, want := a.Text(), value(a).String(); got != want || a != before {
			t.Errorf("Text of %x is %q, want %q", before, got, want)
		}
	}
}

func FuzzWide(f *testing.F) {
	f.Add(bytes.Repeat([]byte{0xff}, 32), []byte{1}, uint64(3), 65)
	f.Fuzz(func(t *testing.T, first, second []byte, n uint64, k int) {
		var g, h api.Hash
		copy(g[:], first)
		copy(h[:], second)
		a, b := wide.Little(g), wide.Little(h)
		checkSums(t, a, b)
		checkNarrow(t, a, n)
		checkQuo(t, a, b)
		if a.Bytes() != g || a.Text() != value(a).String() || a.Len() != value(a).BitLen() {
			t.Fatalf("%x: %x, %s, %d", g, a.Bytes(), a.Text(), a.Len())
		}
		bits := uint(min(max(k, 0), 256))
		if left, right := a.Shl(k), a.Shr(k); left != modulo(new(big.Int).Lsh(value(a), bits)) || right != modulo(new(big.Int).Rsh(value(a), bits)) {
			t.Fatalf("%x by %d: %x and %x", a, k, left, right)
		}
	})
}
