package compact_test

import (
	"math/big"
	"slices"
	"testing"

	"masthead/api"
	"masthead/compact"
	"masthead/wide"
)

var (
	// one is 1, to count up and down by.
	one = big.NewInt(1)
	// whole is 2^256.
	whole = new(big.Int).Lsh(one, 256)
)

// value is the number that a wide integer stands for, worked out from its words.
func value(a wide.U) *big.Int {
	v := new(big.Int)
	for i, word := range a {
		v.Add(v, new(big.Int).Lsh(new(big.Int).SetUint64(word), uint(64*i)))
	}
	return v
}

// number is the wide integer of a value from 0 to 2^256 - 1, worked out from its digits in base 2.
func number(v *big.Int) wide.U {
	var a wide.U
	for i := range 256 {
		a[i/64] |= uint64(v.Bit(i)) << (i % 64)
	}
	return a
}

// power is 256 to the n-th.
func power(n int) *big.Int {
	return new(big.Int).Exp(big.NewInt(256), big.NewInt(int64(n)), nil)
}

// scattered are n words with bits in all places, other ones for each seed.
func scattered(n int, seed uint64) []uint64 {
	l := make([]uint64, n)
	x := seed*0x9e3779b97f4a7c15 + 1
	for i := range l {
		x ^= x << 13
		x ^= x >> 7
		x ^= x << 17
		l[i] = x * 0x2545f4914f6cdd1d
	}
	return l
}

// compacts are all exponents, each with mantissas at the edges of its bytes and with scattered ones, with sign and without.
func compacts() []uint32 {
	low := []uint32{
		0, 1, 0x7f, 0x80, 0xff, 0x100, 0x101, 0x7fff, 0x8000, 0x8001, 0xfffe, 0xffff,
		0x10000, 0x10001, 0x12345, 0x123456, 0x7f0000, 0x7fff00, 0x7ffffe, 0x7fffff,
	}
	for _, word := range scattered(20, 1) {
		low = append(low, uint32(word)&0x7fffff)
	}
	var l []uint32
	for e := range uint32(256) {
		for _, m := range low {
			l = append(l, e<<24|m, e<<24|0x800000|m)
		}
	}
	return l
}

// numbers are wide integers of all lengths: each power of two with its neighbors, and scattered ones.
func numbers() []wide.U {
	l := []wide.U{{}, wide.Max()}
	for bit := range 256 {
		p := new(big.Int).Lsh(one, uint(bit))
		l = append(l, number(p), number(new(big.Int).Sub(p, one)), number(new(big.Int).Add(p, one)))
		// The first bits alone, all of them, and one less than such: where a part is cut off, and where none is.
		for _, first := range []int64{0x7fff, 0x8000, 0xffff, 0x7fffff, 0x800000, 0xffffff} {
			v := new(big.Int).Lsh(big.NewInt(first), uint(bit))
			if v.Cmp(whole) < 0 {
				l = append(l, number(v), number(new(big.Int).Sub(v, one)))
			}
		}
	}
	words := scattered(4*512, 2)
	for i := range 512 {
		var a wide.U
		copy(a[:], words[4*i:])
		l = append(l, a.Shr(i/2))
	}
	return l
}

// targetOf is what the chapter says of the target of a compact, by whole numbers; nil where there is none.
func targetOf(c uint32) *big.Int {
	e, m := int(c>>24), big.NewInt(int64(c%(1<<23)))
	v := new(big.Int)
	if e <= 3 {
		v.Div(m, power(3-e))
	} else {
		v.Mul(m, power(e-3))
	}
	if c>>23&1 == 1 || v.Sign() == 0 || v.Cmp(whole) >= 0 {
		return nil
	}
	return v
}

// compactOf is what the chapter says of the compact of a number, by whole numbers.
func compactOf(t *big.Int) uint32 {
	e := 0
	for t.Cmp(power(e)) >= 0 {
		e++
	}
	m := new(big.Int)
	if e <= 3 {
		m.Mul(t, power(3-e))
	} else {
		m.Div(t, power(e-3))
	}
	if m.Bit(23) == 1 {
		m.Div(m, big.NewInt(256))
		e++
	}
	return uint32(e)*(1<<24) + uint32(m.Int64())
}

// workOf is what the chapter says of the work of a positive number, by whole numbers.
func workOf(t *big.Int) *big.Int {
	return new(big.Int).Div(whole, new(big.Int).Add(t, one))
}

// checkTarget holds Target against an answer, nil where there is none.
func checkTarget(t *testing.T, c uint32, want *big.Int) {
	t.Helper()
	got, e := compact.Target(c)
	switch {
	case want == nil && (got != wide.U{} || e != api.ErrRange):
		t.Errorf("Target(%#08x) is %v, %v, want zero and ErrRange", c, got, e)
	case want != nil && (value(got).Cmp(want) != 0 || e != api.OK):
		t.Errorf("Target(%#08x) is %v, %v, want %v and OK", c, got.Text(), e, want)
	}
}

// P5.1: the examples of the chapter.
func TestExamples(t *testing.T) {
	target, e := compact.Target(0x1d00ffff)
	if target != (wide.U{0, 0, 0, 0xffff0000}) || e != api.OK {
		t.Errorf("Target(0x1d00ffff) is %x, %v", target, e)
	}
	if got := compact.Work(target); got != (wide.U{4295032833}) {
		t.Errorf("the work of it is %v, want 4295032833", got)
	}
	if got := compact.Bits(wide.Of(128)); got != 0x02008000 {
		t.Errorf("Bits(128) is %#08x, want 0x02008000", got)
	}
	if !compact.Canon(0x207fffff) {
		t.Error("0x207fffff is canonical")
	}
	target, e = compact.Target(0x207fffff)
	if got := compact.Work(target); got != (wide.U{2}) || e != api.OK {
		t.Errorf("the work of the target of 0x207fffff is %v, %v, want 2", got, e)
	}
}

// P5.1: targets whose answers are written out: exponents below 3 lose the low bits, greater ones add zeros.
func TestTargetByHand(t *testing.T) {
	for _, c := range []struct {
		bits uint32
		want wide.U
	}{
		{0x01010000, wide.U{1}},
		{0x0101ffff, wide.U{1}},
		{0x017fffff, wide.U{0x7f}},
		{0x02000100, wide.U{1}},
		{0x020001ff, wide.U{1}},
		{0x02123456, wide.U{0x1234}},
		{0x027fffff, wide.U{0x7fff}},
		{0x03000001, wide.U{1}},
		{0x03123456, wide.U{0x123456}},
		{0x037fffff, wide.U{0x7fffff}},
		{0x04000001, wide.U{0x100}},
		{0x04123456, wide.U{0x12345600}},
		{0x09123456, wide.U{0x3456 << 48, 0x12}},
		{0x1d00ffff, wide.U{0, 0, 0, 0xffff << 16}},
		{0x20000001, wide.U{0, 0, 0, 1 << 40}},
		{0x207fffff, wide.U{0, 0, 0, 0x7fffff << 40}},
		{0x2100ffff, wide.U{0, 0, 0, 0xffff << 48}},
		{0x21000001, wide.U{0, 0, 0, 1 << 48}},
		{0x22000001, wide.U{0, 0, 0, 1 << 56}},
		{0x220000ff, wide.U{0, 0, 0, 0xff << 56}},
	} {
		if got, e := compact.Target(c.bits); got != c.want || e != api.OK {
			t.Errorf("Target(%#08x) is %x, %v, want %x", c.bits, got, e, c.want)
		}
	}
}

// P5.1: compacts without a target: a value of 0, one of more than 256 bits, a sign; the other result is zero.
func TestTargetRefused(t *testing.T) {
	for _, c := range []uint32{
		0, 0x00000001, 0x007fffff, 0x0000ffff, // no byte is left at an exponent of 0
		0x01000000, 0x0100ffff, 0x01003456, 0x02000000, 0x020000ff, // all that is set is lost
		0x03000000, 0x04000000, 0x20000000, 0x23000000, 0xff000000, // 0, whatever the exponent
		0x21010000, 0x217fffff, 0x22000100, 0x2200ffff, 0x227fffff, // 2^256 and more
		0x23000001, 0x230000ff, 0x237fffff, 0x24000001, 0x43000001, 0x83000001, 0xff000001, 0xff7fffff,
		// The sign of what would be a target, and of what would be none.
		0x00800000, 0x01800000, 0x01fe0000, 0x03800000, 0x03800001, 0x04923456, 0x1d80ffff, 0x20ffffff, 0x228000ff, 0xff800000, 0xffffffff,
	} {
		if got, e := compact.Target(c); got != (wide.U{}) || e != api.ErrRange {
			t.Errorf("Target(%#08x) is %x, %v, want zero and ErrRange", c, got, e)
		}
		if compact.Canon(c) {
			t.Errorf("Canon(%#08x) is true without a target", c)
		}
	}
}

// P5.1: Target as the chapter says it, by whole numbers, for all exponents.
func TestTargetByWholeNumbers(t *testing.T) {
	found := 0
	for _, c := range compacts() {
		want := targetOf(c)
		checkTarget(t, c, want)
		if want != nil {
			found++
		}
	}
	if found == 0 {
		t.Error("no compact of the test has a target")
	}
}

// P5.1: compacts of numbers whose answers are written out.
func TestBitsByHand(t *testing.T) {
	for _, c := range []struct {
		number wide.U
		want   uint32
	}{
		{wide.U{0}, 0},
		{wide.U{1}, 0x01010000},
		{wide.U{127}, 0x017f0000},
		{wide.U{128}, 0x02008000},
		{wide.U{255}, 0x0200ff00},
		{wide.U{256}, 0x02010000},
		{wide.U{32767}, 0x027fff00},
		{wide.U{32768}, 0x03008000},
		{wide.U{65535}, 0x0300ffff},
		{wide.U{65536}, 0x03010000},
		{wide.U{0x7fffff}, 0x037fffff},
		{wide.U{0x800000}, 0x04008000},
		{wide.U{0x8000ff}, 0x04008000},
		{wide.U{0xffffff}, 0x0400ffff},
		{wide.U{0x12345678}, 0x04123456},
		{wide.U{0x123456ff}, 0x04123456},
		{wide.U{0x92345678}, 0x05009234},
		{wide.U{1 << 63}, 0x09008000},
		{wide.U{0, 1}, 0x09010000},
		{wide.U{0, 0, 0, 1 << 55}, 0x20008000},
		{wide.U{0, 0, 0, 1 << 63}, 0x21008000},
		{wide.U{0, 0, 0, 0x7fffff << 40}, 0x207fffff},
		{wide.Max(), 0x2100ffff},
	} {
		if got := compact.Bits(c.number); got != c.want {
			t.Errorf("Bits(%x) is %#08x, want %#08x", c.number, got, c.want)
		}
	}
}

// P5.1: Bits as the chapter says it, by whole numbers, for numbers of all lengths.
func TestBitsByWholeNumbers(t *testing.T) {
	for _, n := range numbers() {
		if got, want := compact.Bits(n), compactOf(value(n)); got != want {
			t.Errorf("Bits(%x) is %#08x, want %#08x", n, got, want)
		}
	}
}

// P5.1: compacts that have a target are canonical or not.
func TestCanonByHand(t *testing.T) {
	for c, want := range map[uint32]bool{
		0x01010000: true, 0x017f0000: true, 0x02008000: true, 0x027fff00: true, 0x03008000: true, 0x037fffff: true,
		0x04008000: true, 0x1d00ffff: true, 0x207fffff: true, 0x20008000: true, 0x21008000: true, 0x2100ffff: true,
		// Bits that the exponent loses.
		0x01010001: false, 0x01123456: false, 0x0200ff01: false, 0x02123456: false,
		// A greater exponent than the number needs.
		0x02000100: false, 0x02007f00: false, 0x03000001: false, 0x03007fff: false, 0x04007fff: false,
		0x20007fff: false, 0x21000001: false, 0x22000001: false, 0x220000ff: false,
		// None has a target.
		0: false, 0x01000000: false, 0x03800000: false, 0x1d80ffff: false, 0x21010000: false, 0x23000001: false,
	} {
		if got := compact.Canon(c); got != want {
			t.Errorf("Canon(%#08x) is %v, want %v", c, got, want)
		}
	}
}

// P5.1: Canon as the chapter says it, by whole numbers, for all exponents.
func TestCanonByWholeNumbers(t *testing.T) {
	for _, c := range compacts() {
		target := targetOf(c)
		want := target != nil && compactOf(target) == c
		if got := compact.Canon(c); got != want {
			t.Errorf("Canon(%#08x) is %v, want %v", c, got, want)
		}
	}
}

// P5.1: works whose answers are written out.
func TestWorkByHand(t *testing.T) {
	nearly := wide.Max()
	nearly[0]--
	for _, c := range []struct{ target, want wide.U }{
		{wide.U{}, wide.Max()},
		{wide.U{1}, wide.U{0, 0, 0, 1 << 63}},
		{wide.U{2}, wide.U{0x5555555555555555, 0x5555555555555555, 0x5555555555555555, 0x5555555555555555}},
		{wide.U{3}, wide.U{0, 0, 0, 1 << 62}},
		{wide.U{255}, wide.U{0, 0, 0, 1 << 56}},
		{wide.U{1<<64 - 1}, wide.U{0, 0, 0, 1}},
		{wide.U{0, 1}, wide.U{1<<64 - 1, 0, 1<<64 - 1}},
		{wide.U{1<<64 - 1, 1<<64 - 1, 1<<64 - 1}, wide.U{0, 1}},
		{wide.U{0, 0, 0, 1}, wide.U{1<<64 - 1}},
		{wide.U{1<<64 - 1, 1<<64 - 1, 1<<64 - 1, 1<<62 - 1}, wide.U{4}},
		{wide.U{0, 0, 0, 1 << 62}, wide.U{3}},
		{wide.U{1<<64 - 1, 1<<64 - 1, 1<<64 - 1, 1<<63 - 1}, wide.U{2}},
		{wide.U{0, 0, 0, 1 << 63}, wide.U{1}},
		{nearly, wide.U{1}},
		{wide.Max(), wide.U{1}},
	} {
		if got := compact.Work(c.target); got != c.want {
			t.Errorf("Work(%x) is %x, want %x", c.target, got, c.want)
		}
	}
}

// P5.1: Work as the chapter says it, by whole numbers, for numbers of all lengths.
func TestWorkByWholeNumbers(t *testing.T) {
	for _, n := range numbers() {
		if n == (wide.U{}) {
			continue
		}
		if got, want := compact.Work(n), workOf(value(n)); value(got).Cmp(want) != 0 {
			t.Errorf("Work(%x) is %v, want %v", n, got.Text(), want)
		}
	}
}

// checkNear holds the target of a number's compact against that number, and the compact against its target.
func checkNear(t *testing.T, n wide.U) {
	t.Helper()
	c := compact.Bits(n)
	target, e := compact.Target(c)
	if e != api.OK || !compact.Canon(c) {
		t.Errorf("Bits(%x) is %#08x, which has target error %v and is canonical: %v", n, c, e, compact.Canon(c))
		return
	}
	lost := new(big.Int).Sub(value(n), value(target))
	if lost.Sign() < 0 || new(big.Int).Lsh(lost, 15).Cmp(value(n)) >= 0 {
		t.Errorf("the target of the compact of %x is %x, which is greater, or too small", n, target)
	}
	if again := compact.Bits(target); again != c {
		t.Errorf("the compact of %x is %#08x, and of its target %#08x", n, c, again)
	}
}

// P5.2: the target of a number's compact is that number, or less by less than a 2^15th; its compact is canonical.
func TestTargetNearNumber(t *testing.T) {
	for _, n := range numbers() {
		if n != (wide.U{}) {
			checkNear(t, n)
		}
	}
}

// P5.2: a canonical compact is that of its target: for three exponents, those whose mantissa is at least 2^15.
func TestCanonicalIsOfItsTarget(t *testing.T) {
	for _, e := range []uint32{3, 4, 32} {
		count := 0
		for m := range uint32(1 << 23) {
			if m%257 != 0 && m > 1<<15+2 && m < 1<<23-2 {
				continue // all at the edges, and some between
			}
			count++
			c, want := e<<24|m, m >= 1<<15
			if got := compact.Canon(c); got != want {
				t.Fatalf("Canon(%#08x) is %v, want %v", c, got, want)
			}
			target, err := compact.Target(c)
			if want && (err != api.OK || compact.Bits(target) != c) {
				t.Fatalf("the target of %#08x has the compact %#08x", c, compact.Bits(target))
			}
		}
		if count < 1<<15 {
			t.Errorf("only %d compacts of the exponent %d", count, e)
		}
	}
	for _, c := range compacts() {
		if !compact.Canon(c) {
			continue
		}
		if target, e := compact.Target(c); e != api.OK || compact.Bits(target) != c {
			t.Errorf("%#08x is canonical, but its target %x has %#08x", c, target, compact.Bits(target))
		}
	}
}

// P5.3: a greater target does not have more work.
func TestGreaterTargetNotMoreWork(t *testing.T) {
	l := numbers()
	slices.SortFunc(l, wide.U.Cmp)
	for i := range len(l) - 1 {
		if compact.Work(l[i]).Cmp(compact.Work(l[i+1])) < 0 {
			t.Errorf("%x has less work than the greater %x", l[i], l[i+1])
		}
	}
	if compact.Work(l[0]) != wide.Max() || compact.Work(l[len(l)-1]) != wide.Of(1) {
		t.Error("the least and the greatest number do not have the greatest and the least work")
	}
}

// P5.1: no call changes its argument, and each one answers the same again.
func TestAgain(t *testing.T) {
	n := wide.U{1, 2, 3, 4}
	first, _ := compact.Target(0x1d00ffff)
	bits, work := compact.Bits(n), compact.Work(n)
	changed := first
	changed[0] = 7
	again, _ := compact.Target(0x1d00ffff)
	if n != (wide.U{1, 2, 3, 4}) || again != first || compact.Bits(n) != bits || compact.Work(n) != work {
		t.Error("a call answers differently the second time, or changes its argument")
	}
}

// P5.1, P5.2: any compact and any number.
func FuzzCompact(f *testing.F) {
	f.Add(uint32(0x1d00ffff), uint64(0), uint64(0), uint64(0), uint64(0xffff0000))
	f.Add(uint32(0x220000ff), uint64(128), uint64(0), uint64(0), uint64(0))
	f.Add(uint32(0x00800000), uint64(0), uint64(0), uint64(0), uint64(0))
	f.Fuzz(func(t *testing.T, c uint32, w0, w1, w2, w3 uint64) {
		checkTarget(t, c, targetOf(c))
		n := wide.U{w0, w1, w2, w3}
		if got, want := compact.Bits(n), compactOf(value(n)); got != want {
			t.Errorf("Bits(%x) is %#08x, want %#08x", n, got, want)
		}
		if n == (wide.U{}) {
			return
		}
		if got, want := compact.Work(n), workOf(value(n)); value(got).Cmp(want) != 0 {
			t.Errorf("Work(%x) is %v, want %v", n, got.Text(), want)
		}
		checkNear(t, n)
	})
}
