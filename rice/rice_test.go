package rice_test

import (
	"bytes"
	"fmt"
	"math"
	"math/big"
	"slices"
	"strings"
	"testing"

	"masthead/api"
	"masthead/bit"
	"masthead/rice"
)

// maxRun is how many bits 1 a code has ahead of its bit 0 at the most.
const maxRun = 65536

// code is the code of a number as the chapter says it, in digits 0 and 1.
func code(p int, n uint64) string {
	p = max(0, min(32, p))
	power := uint64(1) << p
	low := fmt.Sprintf("%064b", n%power)
	return strings.Repeat("1", int(n/power)) + "0" + low[64-p:]
}

// fits reports whether a number has at most maxRun bits 1 ahead of its bit 0.
func fits(p int, n uint64) bool {
	return n/(1<<max(0, min(32, p))) <= maxRun
}

// packed is the bytes of digits 0 and 1, padded.
func packed(digits string) []byte {
	b := make([]byte, (len(digits)+7)/8)
	for i := range len(digits) {
		b[i/8] |= (digits[i] - '0') << (7 - i%8)
	}
	return b
}

// spelled is the digits 0 and 1 of bytes.
func spelled(b []byte) string {
	var s strings.Builder
	for _, x := range b {
		fmt.Fprintf(&s, "%08b", x)
	}
	return s.String()
}

// short is digits as a fault tells them.
func short(digits string) string {
	if len(digits) > 100 {
		return fmt.Sprintf("%s.. (%d digits)", digits[:100], len(digits))
	}
	return digits
}

// begun is a reader of which just the digits are left; what was read ahead of them, up to a whole byte, are bits 1.
func begun(t *testing.T, digits string) *bit.Reader {
	t.Helper()
	lead := (8 - len(digits)%8) % 8
	r := bit.Of(packed(strings.Repeat("1", lead) + digits))
	if _, e := r.Take(lead); e != api.OK || r.Left() != len(digits) {
		t.Fatalf("a reader of %s has %d bits left", short(digits), r.Left())
	}
	return r
}

// drained is the digits that were left of a reader.
func drained(t *testing.T, r *bit.Reader) string {
	t.Helper()
	var s strings.Builder
	for range r.Left() {
		n, e := r.Take(1)
		if e != api.OK {
			t.Fatalf("Take(1) is %v", e)
		}
		s.WriteByte('0' + byte(n))
	}
	return s.String()
}

// parameters are parameters below 0, of 0 to 32, and above it.
func parameters() []int {
	l := []int{math.MinInt, -64, -32, -1, 33, 34, 63, 64, 65, 1 << 32, math.MaxInt}
	for p := range 33 {
		l = append(l, p)
	}
	return l
}

// numbers have, with the parameter p, few bits 1 and many, and low bits at all places, at the ends alone, and nowhere.
func numbers(p int) []uint64 {
	p = max(0, min(32, p))
	low := uint64(1)<<p - 1
	var l []uint64
	for _, ones := range []uint64{0, 1, 2, 3, 7, 8, 9, 31, 100} {
		for _, rest := range []uint64{0, 1, low, low >> 1, low/2 + 1, 0xa5a5a5a5, 0x12345678} {
			l = append(l, ones<<p|rest&low)
		}
	}
	return l
}

// scattered are n integers with bits in all places, other ones for each seed.
func scattered(n int, seed uint64) []uint64 {
	l := make([]uint64, n)
	x := seed*0x9e3779b97f4a7c15 + 1
	for i := range l {
		x ^= x << 13
		x ^= x >> 7
		x ^= x << 17
		l[i] = x * 0x2545f4914f6cdd1d
	}
	return l
}

// wantPut holds one Put against the chapter's words, on a writer to which the digits before were written, and returns all that are written then.
func wantPut(t *testing.T, w *bit.Writer, before string, p int, n uint64) string {
	t.Helper()
	want, wantErr := before, api.ErrBig
	if fits(p, n) {
		want, wantErr = before+code(p, n), api.OK
	}
	if e := rice.Put(w, p, n); e != wantErr {
		t.Fatalf("Put(%d, %d) is %v, want %v", p, n, e, wantErr)
	}
	if got := spelled(w.Bytes()); w.Len() != len(want) || !bytes.Equal(w.Bytes(), packed(want)) {
		t.Fatalf("Put(%d, %d) behind %s leaves %s of %d bits, want %s", p, n, short(before), short(got), w.Len(), short(want))
	}
	return want
}

// next is what Get must answer as the chapter says it: the number and its error, and the digits that are left then.
func next(digits string, p, most int) (uint64, api.Errno, string) {
	p, most = max(0, min(32, p)), max(0, min(maxRun, most))
	rest := strings.TrimLeft(digits, "1")
	ones := len(digits) - len(rest)
	if ones > most {
		return 0, api.ErrBig, digits
	}
	if len(rest) < 1+p { // without a bit 0, or with fewer behind it
		return 0, api.ErrShort, digits
	}
	n := uint64(ones)
	for _, digit := range rest[1 : 1+p] {
		n = 2*n + uint64(digit-'0')
	}
	return n, api.OK, rest[1+p:]
}

// wantGet holds one Get against the chapter's words, on a reader of which the digits are left, and returns what is left then, and the error.
func wantGet(t *testing.T, r *bit.Reader, digits string, p, most int) (string, api.Errno) {
	t.Helper()
	want, wantErr, rest := next(digits, p, most)
	if got, e := rice.Get(r, p, most); got != want || e != wantErr || r.Left() != len(rest) {
		t.Fatalf("Get(%d, %d) of %s is %d, %v, and leaves %d, want %d, %v, %d", p, most, short(digits), got, e, r.Left(), want, wantErr, len(rest))
	}
	return rest, wantErr
}

// wantWhole holds one Get of the digits against the chapter's words, and all that is left behind it too.
func wantWhole(t *testing.T, digits string, p, most int) api.Errno {
	t.Helper()
	r := begun(t, digits)
	rest, e := wantGet(t, r, digits, p, most)
	if got := drained(t, r); got != rest {
		t.Fatalf("Get(%d, %d) of %s leaves %s, want %s", p, most, short(digits), short(got), short(rest))
	}
	return e
}

// wantAll finds each of the errors among those that were counted.
func wantAll(t *testing.T, ends map[api.Errno]int, l ...api.Errno) {
	t.Helper()
	for _, e := range l {
		if ends[e] == 0 {
			t.Errorf("no call ended with the error %v", e)
		}
	}
}

// P12.1: the examples of the chapter, and the code of its second one read.
func TestExamples(t *testing.T) {
	if got := rice.Size(19, 0); got != 20 {
		t.Errorf("Size(19, 0) is %d, want 20", got)
	}
	w := bit.New()
	if e := rice.Put(w, 2, 9); e != api.OK || w.Len() != 5 || !bytes.Equal(w.Bytes(), []byte{0b11001000}) {
		t.Errorf("the code of 9 with 2 is %08b of %d bits, %v, want 11001", w.Bytes(), w.Len(), e)
	}
	r := bit.Of([]byte{0b11001000})
	if n, e := rice.Get(r, 2, 2); n != 9 || e != api.OK || r.Left() != 3 {
		t.Errorf("Get(2, 2) of 11001 is %d, %v, and leaves %d, want 9, and 3", n, e, r.Left())
	}
}

// P12.1: sizes that are written out here, the greatest ones and the one that is more than can be said among them.
func TestSizeWrittenOut(t *testing.T) {
	for _, c := range []struct {
		p    int
		n    uint64
		want uint64
	}{
		{0, 0, 1},
		{0, 1, 2},
		{0, 65537, 65538}, // a number that Put refuses has a size too
		{1, 1, 2},
		{1, 2, 3},
		{2, 9, 5},
		{19, 0, 20},
		{19, 1<<19 - 1, 20},
		{19, 1 << 19, 21},
		{31, math.MaxUint32, 33},
		{32, math.MaxUint32, 33},
		{32, 1 << 32, 34},
		{33, 1 << 32, 34}, // as with 32
		{64, 1 << 32, 34},
		{math.MaxInt, 1 << 33, 35},
		{-1, 3, 4}, // as with 0
		{-64, 3, 4},
		{math.MinInt, 3, 4},
		{0, math.MaxUint64 - 2, math.MaxUint64 - 1},
		{0, math.MaxUint64 - 1, math.MaxUint64}, // just as many
		{0, math.MaxUint64, math.MaxUint64},     // one more than can be said
		{-5, math.MaxUint64, math.MaxUint64},
		{1, math.MaxUint64, 1<<63 + 1},
		{1, 1 << 63, 1<<62 + 2},
		{32, math.MaxUint64, 1<<32 + 32},
		{99, math.MaxUint64, 1<<32 + 32},
	} {
		if got := rice.Size(c.p, c.n); got != c.want {
			t.Errorf("Size(%d, %d) is %d, want %d", c.p, c.n, got, c.want)
		}
	}
}

// wantSize holds one Size against whole integers of the library.
func wantSize(t *testing.T, p int, n uint64) {
	t.Helper()
	width := max(0, min(32, p))
	want := new(big.Int).Div(new(big.Int).SetUint64(n), big.NewInt(1<<width))
	want.Add(want, big.NewInt(int64(1+width)))
	if !want.IsUint64() {
		want.SetUint64(math.MaxUint64)
	}
	if got := rice.Size(p, n); got != want.Uint64() {
		t.Errorf("Size(%d, %d) is %d, want %d", p, n, got, want)
	}
}

// P12.1: Size of numbers of any length, with all parameters.
func TestSize(t *testing.T) {
	for _, p := range parameters() {
		for shift := range 64 {
			for _, n := range []uint64{1 << shift, 1<<shift - 1, 1<<shift + 1, math.MaxUint64 >> shift, math.MaxUint64 << shift} {
				wantSize(t, p, n)
			}
		}
		for _, n := range scattered(100, 1) {
			wantSize(t, p, n)
		}
	}
}

// P12.1: Size is how many bits Put writes.
func TestSizeOfPut(t *testing.T) {
	for _, p := range parameters() {
		for _, n := range numbers(p) {
			w := bit.New()
			w.Put(0, 3)
			if e := rice.Put(w, p, n); e != api.OK || uint64(w.Len()-3) != rice.Size(p, n) {
				t.Fatalf("Put(%d, %d) writes %d bits, %v, and Size is %d", p, n, w.Len()-3, e, rice.Size(p, n))
			}
		}
	}
}

// P12.1: codes that are written out here.
func TestPutWrittenOut(t *testing.T) {
	for _, c := range []struct {
		p    int
		n    uint64
		want string
	}{
		{0, 0, "0"},
		{0, 3, "1110"},
		{-1, 3, "1110"}, // as with 0
		{math.MinInt, 3, "1110"},
		{1, 0, "00"},
		{1, 1, "01"},
		{1, 2, "100"},
		{2, 9, "11001"},
		{2, 0, "000"},
		{2, 4, "1000"},
		{3, 29, "1110101"}, // the low bits are 101
		{4, 6, "00110"},    // the most significant one first
		{19, 1<<19 + 5, "10" + "0000000000000000101"},
		{32, 1<<33 + 1<<31 + 2, "110" + "10000000000000000000000000000010"},
		{33, 1<<33 + 1<<31 + 2, "110" + "10000000000000000000000000000010"}, // as with 32
		{math.MaxInt, math.MaxUint32, "0" + "11111111111111111111111111111111"},
	} {
		w := bit.New()
		if e := rice.Put(w, c.p, c.n); e != api.OK || w.Len() != len(c.want) || !bytes.Equal(w.Bytes(), packed(c.want)) {
			t.Errorf("Put(%d, %d) is %v and %s of %d bits, want %s", c.p, c.n, e, spelled(w.Bytes()), w.Len(), c.want)
		}
	}
}

// P12.1: Put with all parameters, at each place within a byte, behind bits that must stay.
func TestPut(t *testing.T) {
	for _, p := range parameters() {
		for place := range 8 {
			for i, n := range numbers(p) {
				w := bit.New()
				lead := strings.Repeat("1", place)
				if i%2 == 0 {
					lead = strings.Repeat("0", place)
				}
				for _, digit := range lead {
					w.Put(uint64(digit-'0'), 1)
				}
				digits := wantPut(t, w, lead, p, n)
				wantPut(t, w, digits, 2, 9)
			}
		}
	}
}

// P12.1: Put of as many bits 1 as may be, and of more: then nothing is written, and writing goes on.
func TestPutMost(t *testing.T) {
	for _, p := range parameters() {
		width := max(0, min(32, p))
		low := uint64(1)<<width - 1
		for _, n := range []uint64{
			(maxRun-1)<<width | low,
			maxRun << width,
			maxRun<<width | low,
			(maxRun + 1) << width,
			(maxRun+1)<<width | low,
			(2*maxRun + 1) << width,
			1 << 62, // its bits 1 are so many that int32 or int can't tell them, for a small p
			1 << 63,
			1<<63 | 1<<32 | 1,
			math.MaxUint64 - maxRun,
			math.MaxUint64,
		} {
			w := bit.New()
			digits := wantPut(t, w, "", p, 5<<width)
			digits = wantPut(t, w, digits, p, n)
			wantPut(t, w, digits, p, 1<<width|low)
		}
	}
}

// P12.1: numbers at the bound of Put that are written out here.
func TestPutMostWrittenOut(t *testing.T) {
	for _, c := range []struct {
		p    int
		n    uint64
		want api.Errno
	}{
		{0, 65536, api.OK},
		{0, 65537, api.ErrBig},
		{-3, 65536, api.OK},
		{-3, 65537, api.ErrBig},
		{0, 1 << 32, api.ErrBig},
		{2, 262147, api.OK},
		{2, 262148, api.ErrBig},
		{32, 1<<48 + 1<<32 - 1, api.OK},
		{32, 1<<48 + 1<<32, api.ErrBig},
		{40, 1<<48 + 1<<32 - 1, api.OK},
		{40, 1<<48 + 1<<32, api.ErrBig},
		{32, math.MaxUint64, api.ErrBig},
	} {
		w := bit.New()
		if e := rice.Put(w, c.p, c.n); e != c.want || (e == api.OK) != (w.Len() > 0) {
			t.Errorf("Put(%d, %d) is %v and writes %d bits, want %v", c.p, c.n, e, w.Len(), c.want)
		}
	}
}

// P12.1: numbers, errors and how many bits are left, written out here.
func TestGetWrittenOut(t *testing.T) {
	for _, c := range []struct {
		digits string
		p      int
		most   int
		n      uint64
		e      api.Errno
		left   int
	}{
		{"11001000", 2, 2, 9, api.OK, 3},
		{"11001000", 2, 3, 9, api.OK, 3},
		{"11001000", 2, math.MaxInt, 9, api.OK, 3},
		{"11001000", 2, 1, 0, api.ErrBig, 8},
		{"11001000", 0, 2, 2, api.OK, 5},
		{"11001000", -1, 2, 2, api.OK, 5}, // as with 0
		{"11001000", math.MinInt, 2, 2, api.OK, 5},
		{"11001000", 5, 2, 2<<5 + 8, api.OK, 0}, // just as many bits as are left
		{"11001000", 6, 2, 0, api.ErrShort, 8},  // one more
		{"11001000", 6, 1, 0, api.ErrBig, 8},    // and too many bits 1: that is Run's, and comes first
		{"01010101", 3, 0, 5, api.OK, 4},
		{"01010101", 3, -1, 5, api.OK, 4}, // a most of less than 0 is 0
		{"01010101", 3, math.MinInt, 5, api.OK, 4},
		{"10101010", 3, 0, 0, api.ErrBig, 8},
		{"10101010", 3, -1, 0, api.ErrBig, 8},
		{"10101010", 3, math.MinInt, 0, api.ErrBig, 8},
		{"11111111", 0, 8, 0, api.ErrShort, 8}, // no bit 0
		{"11111111", 3, math.MaxInt, 0, api.ErrShort, 8},
		{"11111111", 3, 7, 0, api.ErrBig, 8}, // no bit 0, and too many
		{"11111110", 0, 7, 7, api.OK, 0},
		{"11111110", 1, 7, 0, api.ErrShort, 8},
		{"11111110", 32, 7, 0, api.ErrShort, 8},
		{"", 0, 0, 0, api.ErrShort, 0}, // no bit at all
		{"", 2, -1, 0, api.ErrShort, 0},
		{"", 32, math.MaxInt, 0, api.ErrShort, 0},
		{"1101000000000000000000000000000001000000", 32, 2, 2<<32 + 1<<31 + 2, api.OK, 5},
		{"1101000000000000000000000000000001000000", 99, 2, 2<<32 + 1<<31 + 2, api.OK, 5}, // as with 32
		{"1101000000000000000000000000000001000000", math.MaxInt, 2, 2<<32 + 1<<31 + 2, api.OK, 5},
	} {
		r := bit.Of(packed(c.digits))
		if n, e := rice.Get(r, c.p, c.most); n != c.n || e != c.e || r.Left() != c.left {
			t.Errorf("Get(%d, %d) of %s is %d, %v, and leaves %d, want %d, %v, %d", c.p, c.most, c.digits, n, e, r.Left(), c.n, c.e, c.left)
		}
	}
}

// P12.1: Get with all parameters, for a most of less than 0, of fewer, of just as many, and of more, with bits behind the code or none.
func TestGet(t *testing.T) {
	ends := map[api.Errno]int{}
	for _, p := range parameters() {
		for _, n := range numbers(p) {
			ones := int(n >> max(0, min(32, p)))
			for _, tail := range []string{"", "0", "1", "0110", "111111111"} {
				for _, most := range []int{math.MinInt, -1, 0, ones - 1, ones, ones + 1, 65536, math.MaxInt} {
					ends[wantWhole(t, code(p, n)+tail, p, most)]++
				}
			}
		}
	}
	wantAll(t, ends, api.OK, api.ErrBig)
}

// P12.1: Get of codes that are cut off anywhere: nothing at all is read, however much of the code is there.
func TestGetCutOff(t *testing.T) {
	ends := map[api.Errno]int{}
	for _, p := range parameters() {
		for _, n := range numbers(p) {
			whole := code(p, n)
			ones := len(whole) - len(strings.TrimLeft(whole, "1"))
			for size := range len(whole) {
				ends[wantWhole(t, whole[:size], p, math.MaxInt)]++
				ends[wantWhole(t, whole[:size], p, ones-1)]++
			}
		}
	}
	wantAll(t, ends, api.ErrShort, api.ErrBig)
}

// P12.1: a Get that is refused leaves all bits to the calls that follow, of this layer and of layer 11.
func TestGetRefused(t *testing.T) {
	r := bit.Of([]byte{0b10111001, 0b01100000})
	r.Take(1)
	for range 3 {
		for _, c := range []struct {
			p, most int
			want    api.Errno
		}{{15, 0, api.ErrShort}, {16, math.MaxInt, api.ErrShort}, {32, -1, api.ErrShort}} {
			if n, e := rice.Get(r, c.p, c.most); n != 0 || e != c.want || r.Left() != 15 {
				t.Errorf("Get(%d, %d) is %d, %v, and leaves %d, want %v, and 15", c.p, c.most, n, e, r.Left(), c.want)
			}
		}
	}
	if n, e := rice.Get(r, 0, 0); n != 0 || e != api.OK || r.Left() != 14 {
		t.Errorf("Get(0, 0) is %d, %v, and leaves %d", n, e, r.Left())
	}
	for _, p := range []int{11, 12, 32} {
		if n, e := rice.Get(r, p, 3); n != 0 || e != api.ErrShort || r.Left() != 14 {
			t.Errorf("Get(%d, 3) of 11100101100000 is %d, %v, and leaves %d", p, n, e, r.Left())
		}
	}
	if n, e := rice.Get(r, 3, 2); n != 0 || e != api.ErrBig || r.Left() != 14 {
		t.Errorf("Get(3, 2) of 11100101100000 is %d, %v, and leaves %d", n, e, r.Left())
	}
	if n, e := rice.Get(r, 3, 3); n != 3<<3+2 || e != api.OK || r.Left() != 7 {
		t.Errorf("Get(3, 3) of 11100101100000 is %d, %v, and leaves %d", n, e, r.Left())
	}
	if n, e := r.Run(2); n != 2 || e != api.OK || !r.Clean() || r.Left() != 4 {
		t.Errorf("Run(2) of 1100000 is %d, %v, and leaves %d", n, e, r.Left())
	}
}

// P12.1: a most above MaxRun counts as MaxRun, so that no more bits 1 are read.
func TestGetMost(t *testing.T) {
	for _, ones := range []int{65535, 65536, 65537, 65538, 131072} {
		for _, tail := range []string{"0101", "0", ""} {
			for _, p := range []int{-1, 0, 1, 3, 4, 32} {
				for _, most := range []int{65535, 65536, 65537, 131072, math.MaxInt} {
					wantWhole(t, strings.Repeat("1", ones)+tail, p, most)
				}
			}
		}
	}
}

// P12.1: the same, with answers that are written out here.
func TestGetMostWrittenOut(t *testing.T) {
	full := strings.Repeat("1", 65536)
	for _, c := range []struct {
		digits string
		p      int
		most   int
		n      uint64
		e      api.Errno
	}{
		{full + "0", 0, 65536, 65536, api.OK},
		{full + "0", 0, math.MaxInt, 65536, api.OK},
		{full + "0", 0, 65535, 0, api.ErrBig},
		{full + "10", 0, 65536, 0, api.ErrBig},
		{full + "10", 0, 65537, 0, api.ErrBig},
		{full + "10", 0, math.MaxInt, 0, api.ErrBig},
		{full, 0, math.MaxInt, 0, api.ErrShort}, // no bit 0, and not too many
		{full + "1", 0, 65537, 0, api.ErrBig},   // no bit 0, and too many
		{full + "0" + strings.Repeat("1", 32), 32, math.MaxInt, 1<<48 + 1<<32 - 1, api.OK},
		{full + "0" + strings.Repeat("1", 31), 32, math.MaxInt, 0, api.ErrShort},
	} {
		if n, e := rice.Get(begun(t, c.digits), c.p, c.most); n != c.n || e != c.e {
			t.Errorf("Get(%d, %d) of %s is %d, %v, want %d, %v", c.p, c.most, short(c.digits), n, e, c.n, c.e)
		}
	}
}

// P12.1: one reader is not another's, and reading changes nothing of what it was handed.
func TestGetAlone(t *testing.T) {
	b := []byte{0b11001111, 0b00010000}
	before := slices.Clone(b)
	r, s := bit.Of(b), bit.Of(b)
	for _, want := range []uint64{9, 12} {
		if n, e := rice.Get(r, 2, 3); n != want || e != api.OK {
			t.Errorf("Get is %d, %v, want %d", n, e, want)
		}
	}
	if s.Left() != 16 || !bytes.Equal(b, before) {
		t.Errorf("of another reader %d bits are left, and the bytes are %08b", s.Left(), b)
	}
	clear(b)
	if n, e := rice.Get(s, 2, 3); n != 9 || e != api.OK {
		t.Errorf("Get of another reader is %d, %v, want 9", n, e)
	}
}

// stepped is what Steps must answer as the chapter says it.
func stepped(p int, l []uint64) ([]byte, api.Errno) {
	var digits strings.Builder
	for i, n := range l {
		step := n
		if i > 0 {
			if n < l[i-1] {
				return nil, api.ErrRange
			}
			step = n - l[i-1]
		}
		if !fits(p, step) {
			return nil, api.ErrBig
		}
		digits.WriteString(code(p, step))
	}
	return packed(digits.String()), api.OK
}

// wantSteps holds one Steps against the chapter's words, and returns its error.
func wantSteps(t *testing.T, p int, l []uint64) api.Errno {
	t.Helper()
	before := slices.Clone(l)
	want, wantErr := stepped(p, l)
	got, e := rice.Steps(p, l)
	if !bytes.Equal(got, want) || e != wantErr {
		t.Fatalf("Steps(%d, %v) is %.100x, %v, want %.100x, %v", p, l, got, e, want, wantErr)
	}
	if !slices.Equal(l, before) {
		t.Fatalf("Steps(%d) changes %v to %v", p, before, l)
	}
	return e
}

// P12.1: steps that are written out here: the first number's own code, equal numbers, and the padding.
func TestStepsWrittenOut(t *testing.T) {
	for _, c := range []struct {
		p    int
		l    []uint64
		want []byte
	}{
		{2, nil, nil},
		{2, []uint64{}, nil},
		{2, []uint64{0}, []byte{0b00000000}},
		{2, []uint64{9}, []byte{0b11001000}},
		{2, []uint64{9, 9, 13}, []byte{0b11001000, 0b10000000}},
		{0, []uint64{1, 3, 6, 6, 6}, []byte{0b10110111, 0b00000000}},
		{-7, []uint64{1, 3, 6, 6, 6}, []byte{0b10110111, 0b00000000}}, // as with 0
		{0, []uint64{7}, []byte{0b11111110}},                          // the last byte is full
		{0, []uint64{8}, []byte{0b11111111, 0b00000000}},              // one bit more
		{0, []uint64{1, 2, 3, 4}, []byte{0b10101010}},
		{1, []uint64{1, 2, 4}, []byte{0b01011000}},                // 01 01 100
		{1, []uint64{3, 3, 3, 4}, []byte{0b10100000, 0b10000000}}, // 101 00 00 01
		{32, []uint64{2}, []byte{0, 0, 0, 1, 0}},                  // 33 bits
		{77, []uint64{2}, []byte{0, 0, 0, 1, 0}},                  // as with 32
		{19, []uint64{0, 0}, []byte{0, 0, 0, 0, 0}},               // 40 bits, all 0
		{32, []uint64{1 << 40, 1<<40 + 1}, append(bytes.Repeat([]byte{0xff}, 32), 0, 0, 0, 0, 0, 0, 0, 0, 0b01000000)}, // 256 bits 1, and 66
	} {
		if got, e := rice.Steps(c.p, c.l); !bytes.Equal(got, c.want) || e != api.OK {
			t.Errorf("Steps(%d, %v) is %08b, %v, want %08b", c.p, c.l, got, e, c.want)
		}
	}
}

// P12.1: lists that Steps refuses, written out here: the first number that is refused is told.
func TestStepsRefused(t *testing.T) {
	for _, c := range []struct {
		p    int
		l    []uint64
		want api.Errno
	}{
		{2, []uint64{9, 8}, api.ErrRange},
		{2, []uint64{9, 9, 13, 12, 20}, api.ErrRange},
		{2, []uint64{9, 13, 10}, api.ErrRange}, // it is less than the preceding one, if not than the first
		{0, []uint64{1, 0}, api.ErrRange},
		{32, []uint64{1 << 40, 1<<40 - 1}, api.ErrRange},
		{32, []uint64{math.MaxUint32, 0}, api.ErrRange},
		{0, []uint64{65537}, api.ErrBig}, // the first one itself
		{0, []uint64{math.MaxUint64}, api.ErrBig},
		{0, []uint64{1, 65538}, api.ErrBig},
		{-1, []uint64{0, 65537}, api.ErrBig},
		{32, []uint64{9, math.MaxUint64}, api.ErrBig},
		{2, []uint64{1 << 40, 8}, api.ErrBig},
		{2, []uint64{8, math.MaxUint64, 9}, api.ErrBig},
		{2, []uint64{9, 8, 1 << 40}, api.ErrRange},
		{2, []uint64{9, 8, math.MaxUint64}, api.ErrRange},
	} {
		if got, e := rice.Steps(c.p, c.l); len(got) != 0 || e != c.want {
			t.Errorf("Steps(%d, %v) is %x, %v, want %v", c.p, c.l, got, e, c.want)
		}
	}
}

// P12.1: it is each difference that has a bound, not what the numbers come to.
func TestStepsFar(t *testing.T) {
	for _, c := range []struct {
		p    int
		step uint64
	}{{0, 65536}, {3, 65536<<3 | 7}, {19, 65536<<19 | 5}, {32, 65536<<32 | math.MaxUint32}} {
		l := []uint64{c.step, 2 * c.step, 3 * c.step}
		if e := wantSteps(t, c.p, l); e != api.OK {
			t.Errorf("Steps(%d, %v) is %v", c.p, l, e)
		}
		more := uint64(1) << c.p
		if e := wantSteps(t, c.p, append(l, 4*c.step+more)); e != api.ErrBig {
			t.Errorf("Steps(%d, %v) with one bit 1 more is %v", c.p, l, e)
		}
	}
}

// P12.1: Steps of all short lists of few different numbers, some too far apart.
func TestStepsShort(t *testing.T) {
	ends := map[api.Errno]int{}
	few := []uint64{0, 1, 6, 7, 65537, 65536<<2 | 3, 65537 << 2}
	for _, p := range []int{-1, 0, 1, 2, 3, 32, 33} {
		lists := [][]uint64{nil}
		for range 5 { // each time all lists of one number more
			var longer [][]uint64
			for _, l := range lists {
				ends[wantSteps(t, p, l)]++
				for _, n := range few {
					longer = append(longer, append(slices.Clone(l), n))
				}
			}
			lists = longer
		}
	}
	wantAll(t, ends, api.OK, api.ErrRange, api.ErrBig)
}

// rising are n numbers that rise by steps of few bits 1 with p.
func rising(p, n int, seed uint64) []uint64 {
	l := scattered(n, seed)
	before := uint64(0)
	for i := range l {
		before += l[i] >> 8 % (5 << max(0, min(32, p)))
		l[i] = before
	}
	return l
}

// P12.1: Steps of longer lists, with all parameters; P12.2: what they write is read with Get.
func TestStepsRead(t *testing.T) {
	for _, p := range parameters() {
		for size := range 40 {
			l := rising(p, size, uint64(size))
			if e := wantSteps(t, p, l); e != api.OK {
				t.Fatalf("Steps(%d, %v) is %v", p, l, e)
			}
			b, _ := rice.Steps(p, l)
			r := bit.Of(b)
			sum := uint64(0)
			for i, want := range l {
				n, e := rice.Get(r, p, 4)
				sum += n
				if sum != want || e != api.OK {
					t.Fatalf("the steps with %d of %v come to %d, %v, at index %d", p, l, sum, e, i)
				}
			}
			if !r.Clean() {
				t.Fatalf("behind the steps with %d of %v %d bits are left, and not mere padding", p, l, r.Left())
			}
		}
	}
}

// P12.1: what Steps told is nobody else's memory.
func TestStepsMemory(t *testing.T) {
	l := []uint64{9, 9, 13}
	first, _ := rice.Steps(2, l)
	second, _ := rice.Steps(2, l)
	clear(first)
	_ = append(first[:1], 0xff)
	third, _ := rice.Steps(2, l)
	for _, b := range [][]byte{second, third} {
		if string(b) != "\xc8\x80" {
			t.Errorf("Steps told %x, want c880", b)
		}
	}
	clear(l)
	if string(second) != "\xc8\x80" {
		t.Errorf("with the list it became %x", second)
	}
}

// P12.1: no sentence says what is answered for a nil writer or reader, so it is the zero value, and no panic; a number that is refused is refused all the same.
func TestNil(t *testing.T) {
	for _, p := range parameters() {
		if e := rice.Put(nil, p, 9); e != api.OK {
			t.Errorf("Put(%d, 9) on nil is %v", p, e)
		}
		if e := rice.Put(nil, p, math.MaxUint64); e != api.ErrBig {
			t.Errorf("Put(%d, 2^64 - 1) on nil is %v", p, e)
		}
		if n, e := rice.Get(nil, p, 9); n != 0 || e != api.OK {
			t.Errorf("Get(%d, 9) on nil is %d, %v", p, n, e)
		}
	}
}

// wantRead writes numbers with p, each as far as Put does not refuse it, between other bits, and reads them all.
func wantRead(t *testing.T, p int, l []uint64) {
	t.Helper()
	w := bit.New()
	var written []uint64
	for i, n := range l {
		if e := rice.Put(w, p, n); e == api.OK {
			written = append(written, n)
			w.Put(uint64(i), 5)
		}
	}
	r := bit.Of(w.Bytes())
	for _, want := range written {
		ones := int(want >> max(0, min(32, p)))
		left := r.Left()
		if ones > 0 {
			if n, e := rice.Get(r, p, ones-1); n != 0 || e != api.ErrBig || r.Left() != left {
				t.Fatalf("Get(%d, %d) of the code of %d is %d, %v", p, ones-1, want, n, e)
			}
		}
		if n, e := rice.Get(r, p, ones); n != want || e != api.OK {
			t.Fatalf("Get(%d, %d) of the code of %d is %d, %v", p, ones, want, n, e)
		}
		if _, e := r.Take(5); e != api.OK {
			t.Fatalf("behind the code of %d with %d: %v", want, p, e)
		}
	}
	if !r.Clean() {
		t.Fatalf("behind the codes with %d %d bits are left, and not mere padding", p, r.Left())
	}
}

// P12.2: numbers with all parameters, at all places, few bits 1 and as many as may be.
func TestPutGet(t *testing.T) {
	for _, p := range parameters() {
		width := max(0, min(32, p))
		l := numbers(p)
		l = append(l, maxRun<<width, maxRun<<width|(1<<width-1), (maxRun+1)<<width, math.MaxUint64, 3)
		wantRead(t, p, l)
		for seed := range uint64(20) {
			l = scattered(20, seed)
			for i := range l {
				l[i] >>= 64 - width - i%8
			}
			wantRead(t, p, l)
		}
	}
}

// P12.2: numbers with parameters that change from one to the next.
func TestPutGetMixed(t *testing.T) {
	for seed := range uint64(300) {
		l := scattered(60, seed)
		w := bit.New()
		digits := ""
		for i, n := range l {
			p := int(n%40) - 3
			l[i] >>= min(63, 60-max(0, min(32, p)))
			digits = wantPut(t, w, digits, p, l[i])
		}
		r := bit.Of(w.Bytes())
		for i, n := range scattered(60, seed) {
			p := int(n%40) - 3
			if got, e := rice.Get(r, p, maxRun); got != l[i] || e != api.OK {
				t.Fatalf("Get(%d) is %d, %v, want %d", p, got, e, l[i])
			}
		}
		if !r.Clean() {
			t.Fatalf("%d bits are left, and not mere padding", r.Left())
		}
	}
}

// P12.1: readers of many bytes, by many orders of calls, as the chapter says it.
func TestManyGets(t *testing.T) {
	ends := map[api.Errno]int{}
	for seed := range uint64(3000) {
		l := scattered(30, seed)
		b := make([]byte, l[0]%25)
		for i := range b {
			x := l[1+i]
			b[i] = []byte{0x00, 0xff, 0xff, 0xfe, 0x7f, 0x01, 0x80, byte(x)}[x>>60%8]
		}
		checkGets(t, b, l, ends)
	}
	wantAll(t, ends, api.OK, api.ErrShort, api.ErrBig)
}

// checkGets makes calls on a reader of b as the integers say, and counts their errors.
func checkGets(t *testing.T, b []byte, l []uint64, ends map[api.Errno]int) {
	t.Helper()
	r, digits := bit.Of(b), spelled(b)
	for _, x := range l {
		var e api.Errno
		digits, e = wantGet(t, r, digits, int(x%37)-2, int(x>>8%24)-2)
		ends[e]++
	}
	if got := drained(t, r); got != digits {
		t.Fatalf("the calls leave %s, want %s", short(got), short(digits))
	}
}

// P12.1: any bytes, by any calls.
func FuzzGet(f *testing.F) {
	f.Add([]byte{0xc8, 0x80}, 2, 2, uint64(9))
	f.Add([]byte("\xff\xff\xff\xff\xff\xff\xff\xff\xff\xfe"), math.MaxInt, math.MaxInt, uint64(math.MaxUint64))
	f.Add([]byte{}, math.MinInt, math.MinInt, uint64(0))
	f.Fuzz(func(t *testing.T, b []byte, p, most int, seed uint64) {
		wantWhole(t, spelled(b), p, most)
		checkGets(t, b, scattered(20, seed), map[api.Errno]int{})
	})
}

// P12.1, P12.2: any numbers, with any parameter.
func FuzzPut(f *testing.F) {
	f.Add(2, uint64(9), uint64(13))
	f.Add(math.MaxInt, uint64(math.MaxUint64), uint64(0))
	f.Add(math.MinInt, uint64(65536), uint64(65537))
	f.Fuzz(func(t *testing.T, p int, n, m uint64) {
		wantSize(t, p, n)
		w := bit.New()
		wantPut(t, w, wantPut(t, w, "", p, n), p, m)
		wantSteps(t, p, []uint64{n, m})
		wantRead(t, p, []uint64{n, m, n >> 40, m >> 40})
	})
}
