package bit_test

import (
	"bytes"
	"fmt"
	"math"
	"slices"
	"strconv"
	"strings"
	"testing"

	"masthead/api"
	"masthead/bit"
)

// low is the clamped width last digits of n in the base 2: what Put must write.
func low(n uint64, width int) string {
	return fmt.Sprintf("%064b", n)[64-max(0, min(64, width)):]
}

// ones is what Ones must write.
func ones(n int) string {
	return strings.Repeat("1", max(0, min(65536, n)))
}

// packed is the bytes of digits 0 and 1, padded.
func packed(t *testing.T, digits string) []byte {
	t.Helper()
	for len(digits)%8 != 0 {
		digits += "0"
	}
	b := []byte{}
	for i := 0; i < len(digits); i += 8 {
		b = append(b, byte(number(t, digits[i:i+8])))
	}
	return b
}

// spelled is the digits 0 and 1 of bytes.
func spelled(b []byte) string {
	var s strings.Builder
	for _, x := range b {
		fmt.Fprintf(&s, "%08b", x)
	}
	return s.String()
}

// number is the integer of digits 0 and 1.
func number(t *testing.T, digits string) uint64 {
	t.Helper()
	n, err := strconv.ParseUint("0"+digits, 2, 64)
	if err != nil {
		t.Fatalf("%q is no number", digits)
	}
	return n
}

// dice returns a function that returns integers from 0 to n - 1, always the same ones for a seed.
func dice(seed uint64) func(n int) int {
	return func(n int) int {
		seed = seed*6364136223846793005 + 1442695040888963407
		return int(seed>>33) % n
	}
}

// wantWritten holds Len and Bytes of a writer against the digits that were written.
func wantWritten(t *testing.T, call string, w *bit.Writer, digits string) {
	t.Helper()
	for range 2 { // telling changes nothing
		if got, want := w.Bytes(), packed(t, digits); !bytes.Equal(got, want) {
			t.Fatalf("after %s Bytes is %x, want %x", call, got, want)
		}
		if w.Len() != len(digits) {
			t.Fatalf("after %s Len is %d, want %d", call, w.Len(), len(digits))
		}
	}
}

// model is a reader as the chapter says it, of digits 0 and 1.
type model struct {
	rest string
}

func (m *model) take(t *testing.T, width int) (uint64, api.Errno) {
	t.Helper()
	width = max(0, min(64, width))
	if width > len(m.rest) {
		return 0, api.ErrShort
	}
	n := number(t, m.rest[:width])
	m.rest = m.rest[width:]
	return n, api.OK
}

func (m *model) run(most int) (int, api.Errno) {
	n := len(m.rest) - len(strings.TrimLeft(m.rest, "1"))
	if n > max(0, most) {
		return 0, api.ErrBig
	}
	if n == len(m.rest) {
		return 0, api.ErrShort
	}
	m.rest = m.rest[n+1:]
	return n, api.OK
}

// wantRest holds Left and Clean of a reader against the digits that are left.
func wantRest(t *testing.T, call string, r *bit.Reader, rest string) {
	t.Helper()
	clean := len(rest) < 8 && !strings.Contains(rest, "1")
	for range 2 { // telling changes nothing
		if r.Left() != len(rest) || r.Clean() != clean {
			t.Fatalf("after %s Left is %d and Clean %t, want %d and %t", call, r.Left(), r.Clean(), len(rest), clean)
		}
	}
}

// wantTake makes one Take on both, and returns its error.
func wantTake(t *testing.T, r *bit.Reader, m *model, width int) api.Errno {
	t.Helper()
	rest := m.rest
	want, wantErr := m.take(t, width)
	if got, e := r.Take(width); got != want || e != wantErr {
		t.Fatalf("Take(%d) of %.100s is %d, %v, want %d, %v", width, rest, got, e, want, wantErr)
	}
	wantRest(t, fmt.Sprintf("Take(%d) of %.100s", width, rest), r, m.rest)
	return wantErr
}

// wantRun makes one Run on both, and returns its error.
func wantRun(t *testing.T, r *bit.Reader, m *model, most int) api.Errno {
	t.Helper()
	rest := m.rest
	want, wantErr := m.run(most)
	if got, e := r.Run(most); got != want || e != wantErr {
		t.Fatalf("Run(%d) of %.100s is %d, %v, want %d, %v", most, rest, got, e, want, wantErr)
	}
	wantRest(t, fmt.Sprintf("Run(%d) of %.100s", most, rest), r, m.rest)
	return wantErr
}

// begun is a reader and a model of b, whose first place bits were read.
func begun(t *testing.T, b []byte, place int) (*bit.Reader, *model) {
	t.Helper()
	r := bit.Of(b)
	if _, e := r.Take(place); e != api.OK {
		t.Fatalf("Take(%d) of %x is %v", place, b, e)
	}
	return r, &model{rest: spelled(b)[place:]}
}

// widths are widths below 0, of 0 to 64, and above it.
func widths() []int {
	l := []int{math.MinInt, -64, -8, -1, 65, 66, 72, 128, 1 << 32, math.MaxInt}
	for width := range 65 {
		l = append(l, width)
	}
	return l
}

// integers have bits at all places, at the ends alone, and nowhere.
func integers() []uint64 {
	return []uint64{0, 1, 2, 5, 0x80, 0x1ff, 0xa5a5a5a5a5a5a5a5, 0x5a5a5a5a5a5a5a5a, 0x0123456789abcdef, 1 << 63, 1<<63 | 1, 1<<63 - 1, math.MaxUint64}
}

// P11.1: the example of the chapter, and its bits read.
func TestExample(t *testing.T) {
	w := bit.New()
	w.Put(5, 3)
	w.Ones(2)
	w.Put(0, 1)
	if got := w.Bytes(); !bytes.Equal(got, []byte{184}) || w.Len() != 6 {
		t.Errorf("the example is %v of %d bits, want 184 of 6", got, w.Len())
	}
	r := bit.Of([]byte{184})
	if n, e := r.Take(3); n != 5 || e != api.OK {
		t.Errorf("Take(3) is %d, %v, want 5", n, e)
	}
	if n, e := r.Run(2); n != 2 || e != api.OK {
		t.Errorf("Run(2) is %d, %v, want 2", n, e)
	}
	if r.Left() != 2 || !r.Clean() {
		t.Errorf("%d bits are left, clean: %t, want 2, all 0", r.Left(), r.Clean())
	}
}

// P11.1: bytes and numbers that are written out here, from the most significant bit on.
func TestWrittenOut(t *testing.T) {
	w := bit.New()
	w.Put(1, 1)
	w.Put(0, 2)
	w.Put(0x1234, 16)
	w.Ones(5)
	w.Put(0xf0f, 4)
	if got := w.Bytes(); string(got) != "\x82\x46\x9f\xf0" || w.Len() != 28 {
		t.Errorf("written is %x of %d bits, want 82469ff0 of 28", got, w.Len())
	}
	w = bit.New()
	w.Put(0x0123456789abcdef, 64)
	if got := w.Bytes(); string(got) != "\x01\x23\x45\x67\x89\xab\xcd\xef" {
		t.Errorf("Put of 64 bits is %x", got)
	}
	r := bit.Of([]byte("\x01\x23\x45\x67\x89\xab\xcd\xef\xfe\x80"))
	if n, e := r.Take(64); n != 0x0123456789abcdef || e != api.OK {
		t.Errorf("Take(64) is %x, %v", n, e)
	}
	if n, e := r.Run(7); n != 7 || e != api.OK {
		t.Errorf("Run(7) is %d, %v", n, e)
	}
	if n, e := r.Take(2); n != 2 || e != api.OK {
		t.Errorf("Take(2) is %d, %v", n, e)
	}
}

// P11.1: a writer to which nothing was written, or only nothing.
func TestWriterOfNothing(t *testing.T) {
	w := bit.New()
	wantWritten(t, "New", w, "")
	for _, n := range []int{0, -1, -64, math.MinInt} {
		w.Put(math.MaxUint64, n)
		w.Ones(n)
		wantWritten(t, "writing of no bits", w, "")
	}
	w.Put(1, 1)
	wantWritten(t, "Put(1, 1)", w, "1")
}

// P11.1: two writers, and two readers of the same bytes, have nothing in common.
func TestApart(t *testing.T) {
	w, v := bit.New(), bit.New()
	w.Put(7, 3)
	wantWritten(t, "Put on another writer", v, "")
	b := []byte{0xa5}
	r, s := bit.Of(b), bit.Of(b)
	r.Take(3)
	r.Run(1)
	wantRest(t, "calls on another reader", s, "10100101")
}

// P11.1: Put of all widths, of numbers with bits above the width too, at each place within a byte.
func TestPut(t *testing.T) {
	for place := range 16 {
		for _, lead := range []uint64{0, math.MaxUint64} { // what stands before must stay
			for _, n := range integers() {
				for _, width := range widths() {
					w := bit.New()
					w.Put(lead, place)
					w.Put(n, width)
					digits := low(lead, place) + low(n, width)
					wantWritten(t, fmt.Sprintf("Put(%#x, %d) at %d", n, width, place), w, digits)
					w.Put(5, 3)
					wantWritten(t, "one Put more", w, digits+"101")
				}
			}
		}
	}
}

// P11.1: Ones of less than 0, of 0, of some that end within a byte, at its end and beyond it, and of MaxRun and more, at each place within a byte.
func TestOnes(t *testing.T) {
	numbers := []int{math.MinInt, -65536, -1, 1000, 65535, 65536, 65537, 65544, 131072, 1 << 32, math.MaxInt}
	for n := range 26 {
		numbers = append(numbers, n)
	}
	for place := range 8 {
		for _, n := range numbers {
			w := bit.New()
			w.Put(0, place)
			w.Ones(n)
			digits := low(0, place) + ones(n)
			wantWritten(t, fmt.Sprintf("Ones(%d) at %d", n, place), w, digits)
			w.Put(1, 3)
			wantWritten(t, "one Put more", w, digits+"001")
		}
	}
}

// P11.1: Len and Bytes behind each single bit; whatever is not yet written of the last byte is 0.
func TestEachBit(t *testing.T) {
	for _, s := range []string{"1111111111111111", "0000000000000000", "1011100001011101", "0110101010010100"} {
		w := bit.New()
		for i := range len(s) {
			if s[i] == '1' && i%2 == 0 {
				w.Ones(1)
			} else {
				w.Put(uint64(s[i]-'0'), 1)
			}
			wantWritten(t, "one bit more", w, s[:i+1])
		}
	}
}

// P11.1: what Bytes told is no writer's memory: neither does writing change it, nor its change what was written.
func TestWriterMemory(t *testing.T) {
	w := bit.New()
	w.Put(0x2d5, 10) // the last byte is not full, so more goes into it
	told, kept := w.Bytes(), w.Bytes()
	w.Put(0x15, 6)
	wantWritten(t, "writing into the last byte", w, "1011010101"+"010101")
	if string(told) != "\xb5\x40" {
		t.Errorf("what Bytes told became %x", told)
	}
	clear(told)
	_ = append(told[:1], 0xff, 0xff, 0xff)
	wantWritten(t, "a change of what Bytes told", w, "1011010101"+"010101")
	told = w.Bytes()
	_ = append(told, "zz"...)
	w.Ones(3)
	_ = append(told, "zz"...)
	wantWritten(t, "an append to what Bytes told", w, "1011010101"+"010101"+"111")
	if string(kept) != "\xb5\x40" {
		t.Errorf("what Bytes told first became %x", kept)
	}
}

// P11.1: a reader reads the bytes as they were handed in, and changes none.
func TestReaderMemory(t *testing.T) {
	b := []byte{0xb5, 0x4f, 0xff, 0xff}
	r := bit.Of(b[:2])
	if n, e := r.Take(4); n != 0xb || e != api.OK {
		t.Errorf("Take(4) is %x, %v", n, e)
	}
	r.Run(0) // reads the bit 0 that comes next
	if string(b) != "\xb5\x4f\xff\xff" {
		t.Errorf("what was handed in became %x", b)
	}
	clear(b)
	wantRest(t, "a change of what was handed in", r, "101"+"01001111")
	if n, e := r.Take(11); n != 0x54f || e != api.OK {
		t.Errorf("Take(11) is %x, %v", n, e)
	}
}

// P11.1: a reader of no bytes.
func TestReaderOfNothing(t *testing.T) {
	for _, b := range [][]byte{nil, {}} {
		r, m := bit.Of(b), &model{}
		wantRest(t, "Of nothing", r, "")
		for _, width := range widths() {
			wantTake(t, r, m, width)
			wantRun(t, r, m, width)
		}
	}
}

// P11.1: Take of all widths at each place, with as many bits left as are taken, with more, and with fewer.
func TestTake(t *testing.T) {
	ends := map[api.Errno]int{}
	for _, b := range [][]byte{
		[]byte("\x01\x23\x45\x67\x89\xab\xcd\xef\xa5\x5a\xc3"),
		[]byte("\x00\x00\x00\x00\x00\x00\x00\x00\x80\x00\x01"),
		bytes.Repeat([]byte{0xff}, 11),
	} {
		for size := range len(b) + 1 {
			for place := range min(8*size, 8) + 1 {
				for _, width := range widths() {
					r, m := begun(t, b[:size], place)
					ends[wantTake(t, r, m, width)]++
					left := len(m.rest)
					wantTake(t, r, m, left+1)
					wantTake(t, r, m, left)
					wantTake(t, r, m, 1)
				}
			}
		}
	}
	if ends[api.OK] == 0 || ends[api.ErrShort] == 0 {
		t.Errorf("Take ended with %v alone", ends)
	}
}

// P11.1: a Take that is refused leaves all bits to the calls that follow.
func TestTakeTooMuch(t *testing.T) {
	r := bit.Of([]byte{0xa5, 0xc3})
	r.Take(3)
	for _, width := range []int{14, 15, 63, 64, 65, math.MaxInt} {
		if n, e := r.Take(width); n != 0 || e != api.ErrShort || r.Left() != 13 {
			t.Errorf("Take(%d) of 13 bits is %d, %v, and leaves %d", width, n, e, r.Left())
		}
	}
	if n, e := r.Take(13); n != 0x5c3 || e != api.OK || r.Left() != 0 {
		t.Errorf("Take(13) is %x, %v, and leaves %d", n, e, r.Left())
	}
	if n, e := r.Take(1); n != 0 || e != api.ErrShort || r.Left() != 0 {
		t.Errorf("Take(1) at the end is %d, %v", n, e)
	}
	if n, e := r.Take(0); n != 0 || e != api.OK {
		t.Errorf("Take(0) at the end is %d, %v", n, e)
	}
}

// P11.1: Run at each place, of no 1 up to many, with a bit 0 behind them or none, for a most of less than 0, of fewer, of just as many, and of more.
func TestRun(t *testing.T) {
	ends := map[api.Errno]int{}
	for place := range 8 {
		for n := range 34 {
			for _, tail := range []string{"", "0", "01", "011111111", "000000000", "010101010101010101"} {
				digits := strings.Repeat("0", place) + ones(n) + tail
				for tail == "" && len(digits)%8 != 0 { // no bit 0 follows, not even one of the padding
					digits += "1"
				}
				for _, most := range []int{math.MinInt, -1, 0, 1, n - 1, n, n + 1, n + 8, 65536, math.MaxInt - 1, math.MaxInt} {
					r, m := begun(t, packed(t, digits), place)
					ends[wantRun(t, r, m, most)]++
					wantRun(t, r, m, math.MaxInt)
					wantTake(t, r, m, 5)
				}
			}
		}
	}
	for _, e := range []api.Errno{api.OK, api.ErrBig, api.ErrShort} {
		if ends[e] == 0 {
			t.Errorf("no Run ended with the error %v", e)
		}
	}
}

// P11.1: answers of Run that are written out here.
func TestRunWrittenOut(t *testing.T) {
	for _, c := range []struct {
		bytes string
		most  int
		n     int
		e     api.Errno
		left  int
	}{
		{"\x7f", 0, 0, api.OK, 7},  // no 1
		{"\x7f", -1, 0, api.OK, 7}, // a most of less than 0 is 0
		{"\x7f", math.MinInt, 0, api.OK, 7},
		{"\xbf", 0, 0, api.ErrBig, 8},  // one more than may be
		{"\xbf", -1, 0, api.ErrBig, 8}, // the same
		{"\xbf", 1, 1, api.OK, 6},      // just as many
		{"\xff\x7f", 8, 8, api.OK, 7},  // a byte full
		{"\xff\x7f", 7, 0, api.ErrBig, 16},
		{"\xff\xbf", 9, 9, api.OK, 6}, // beyond a byte
		{"\xff\xbf", 8, 0, api.ErrBig, 16},
		{"\xff\xfe", 15, 15, api.OK, 0}, // the bit 0 is the last one
		{"\xff", 8, 0, api.ErrShort, 8}, // no bit 0
		{"\xff", 9, 0, api.ErrShort, 8}, // the same
		{"\xff", math.MaxInt, 0, api.ErrShort, 8},
		{"\xff", 7, 0, api.ErrBig, 8},  // no bit 0, and too many
		{"\xff", -1, 0, api.ErrBig, 8}, // the same
		{"", 0, 0, api.ErrShort, 0},    // no bit at all
		{"", -1, 0, api.ErrShort, 0},
		{"", math.MaxInt, 0, api.ErrShort, 0},
	} {
		r := bit.Of([]byte(c.bytes))
		if n, e := r.Run(c.most); n != c.n || e != c.e || r.Left() != c.left {
			t.Errorf("Run(%d) of %x is %d, %v, and leaves %d, want %d, %v, %d", c.most, c.bytes, n, e, r.Left(), c.n, c.e, c.left)
		}
	}
}

// P11.1: Run knows no bound but its most: more than MaxRun bits 1 in a row are read.
func TestLongRun(t *testing.T) {
	for _, n := range []int{65535, 65536, 65537, 131072} {
		for place := range 8 {
			digits := strings.Repeat("0", place) + strings.Repeat("1", n)
			for _, most := range []int{65536, n - 1, n, math.MaxInt} {
				r, m := begun(t, packed(t, digits+"0101"), place)
				wantRun(t, r, m, most)
				wantTake(t, r, m, 3)
			}
		}
	}
}

// P11.1: Left and Clean with 0 to 16 bits left, all 0 or one of them 1, whatever was read before.
func TestClean(t *testing.T) {
	for left := range 17 {
		for one := -1; one < left; one++ { // -1: none is 1
			rest := []byte(strings.Repeat("0", left))
			if one >= 0 {
				rest[one] = '1'
			}
			for _, lead := range []string{"0", "1"} {
				read := 24 - left
				r, m := begun(t, packed(t, strings.Repeat(lead, read)+string(rest)), read)
				wantRest(t, "all but "+m.rest, r, string(rest))
			}
		}
	}
	if bit.Of([]byte{0}).Clean() {
		t.Error("a whole byte of bits 0 is clean")
	}
	if !bit.Of(nil).Clean() {
		t.Error("nothing left is not clean")
	}
}

// P11.1: all bytes of one, and many of two, by each call at each place.
func TestAllBytes(t *testing.T) {
	var tried [][]byte
	for x := range 256 {
		tried = append(tried, []byte{byte(x)})
		for _, y := range []byte{0x00, 0x01, 0x7f, 0x80, 0xa5, 0xfe, 0xff} {
			tried = append(tried, []byte{byte(x), y})
		}
	}
	for _, b := range tried {
		for place := range 8 {
			for n := -1; n <= 17; n++ {
				r, m := begun(t, b, place)
				wantTake(t, r, m, n)
				r, m = begun(t, b, place)
				wantRun(t, r, m, n)
			}
		}
	}
}

// P11.2: what is written by Put, of each width and at each place, is read by Take of the same widths.
func TestPutTaken(t *testing.T) {
	w := bit.New()
	for _, n := range integers() {
		for _, width := range widths() {
			w.Put(n, width)
			w.Put(1, 1)
		}
	}
	r := bit.Of(w.Bytes())
	for _, n := range integers() {
		for _, width := range widths() {
			got, e := r.Take(width)
			if want := number(t, low(n, width)); got != want || e != api.OK {
				t.Fatalf("Take(%d) is %#x, %v, want %#x", width, got, e, want)
			}
			if got, e := r.Take(1); got != 1 || e != api.OK {
				t.Fatalf("Take(1) behind it is %d, %v", got, e)
			}
		}
	}
	if !r.Clean() {
		t.Errorf("%d bits are left, and not mere padding", r.Left())
	}
}

// P11.2: what is written by Ones and a bit 0 is read by Run.
func TestOnesRun(t *testing.T) {
	numbers := []int{0, 1, 2, 7, 8, 9, 0, 15, 16, 17, 1000, 65535, 65536, 65537, -1, math.MaxInt, 3}
	w := bit.New()
	for _, n := range numbers {
		w.Ones(n)
		w.Put(0, 1)
	}
	r := bit.Of(w.Bytes())
	for _, n := range numbers {
		want := len(ones(n))
		if want > 0 {
			if got, e := r.Run(want - 1); got != 0 || e != api.ErrBig {
				t.Fatalf("Run(%d) of %d bits 1 is %d, %v", want-1, want, got, e)
			}
		}
		if got, e := r.Run(want); got != want || e != api.OK {
			t.Fatalf("Run(%d) is %d, %v", want, got, e)
		}
	}
	if !r.Clean() {
		t.Errorf("%d bits are left, and not mere padding", r.Left())
	}
}

// piece is one call of a writer: a Put, or Ones with a bit 0 behind them.
type piece struct {
	ones  bool
	n     uint64
	width int // of Ones: how many
}

// write makes the call of a piece, and returns the digits that it must write.
func (p piece) write(w *bit.Writer) string {
	if p.ones {
		w.Ones(p.width)
		w.Put(0, 1)
		return ones(p.width) + "0"
	}
	w.Put(p.n, p.width)
	return low(p.n, p.width)
}

// wantRead reads a piece as it was written.
func (p piece) wantRead(t *testing.T, r *bit.Reader) {
	t.Helper()
	if p.ones {
		want := max(0, min(65536, p.width))
		if got, e := r.Run(want); got != want || e != api.OK {
			t.Fatalf("Run(%d) is %d, %v", want, got, e)
		}
		return
	}
	want := number(t, low(p.n, p.width))
	if got, e := r.Take(p.width); got != want || e != api.OK {
		t.Fatalf("Take(%d) is %#x, %v, want %#x", p.width, got, e, want)
	}
}

// wantPieces writes pieces, reads them, and finds nothing but padding behind them.
func wantPieces(t *testing.T, l []piece) {
	t.Helper()
	w := bit.New()
	digits := ""
	for _, p := range l {
		digits += p.write(w)
	}
	wantWritten(t, "all pieces", w, digits)
	r := bit.Of(w.Bytes())
	for _, p := range l {
		p.wantRead(t, r)
	}
	if !r.Clean() || r.Left() != (8-len(digits)%8)%8 {
		t.Fatalf("behind all pieces %d bits are left, clean: %t", r.Left(), r.Clean())
	}
}

// P11.2: what is written, in any order of Put and Ones, is read.
func TestAnyOrder(t *testing.T) {
	l := integers()
	for seed := range uint64(3000) {
		next := dice(seed)
		var pieces []piece
		for range 1 + next(20) {
			p := piece{ones: next(3) == 0, n: l[next(len(l))], width: next(70) - 3}
			pieces = append(pieces, p)
		}
		wantPieces(t, pieces)
	}
}

// P11.2: bits that were written may be read by other calls than those that wrote them: all are the same bits.
func TestOtherCalls(t *testing.T) {
	w := bit.New()
	w.Ones(11)
	w.Put(0x3e, 7) // 0111110
	r := bit.Of(w.Bytes())
	for _, width := range []int{4, 7} {
		if n, e := r.Take(width); n != 1<<width-1 || e != api.OK {
			t.Errorf("Take(%d) of bits 1 is %d, %v", width, n, e)
		}
	}
	if n, e := r.Run(0); n != 0 || e != api.OK {
		t.Errorf("Run(0) at a bit 0 is %d, %v", n, e)
	}
	if n, e := r.Run(5); n != 5 || e != api.OK || !r.Clean() {
		t.Errorf("Run(5) of five bits 1 is %d, %v", n, e)
	}
}

// checkCalls makes calls on a reader of b as the bytes of kinds say, and counts their errors.
func checkCalls(t *testing.T, b, kinds []byte, n int, ends map[api.Errno]int) {
	t.Helper()
	r, m := bit.Of(b), &model{rest: spelled(b)}
	wantRest(t, "Of", r, m.rest)
	for _, k := range kinds {
		switch k % 4 {
		case 0:
			ends[wantTake(t, r, m, int(k)/4)]++
		case 1:
			ends[wantRun(t, r, m, int(k)/4)]++
		case 2:
			ends[wantTake(t, r, m, n)]++
		case 3:
			ends[wantRun(t, r, m, n)]++
		}
	}
}

// P11.1: readers of many bytes, by many orders of calls, as the chapter says it.
func TestManyCalls(t *testing.T) {
	ends := map[api.Errno]int{}
	for seed := range uint64(5000) {
		next := dice(seed)
		b := make([]byte, next(20))
		for i := range b {
			b[i] = []byte{0x00, 0xff, 0xff, 0xfe, 0x7f, 0x01, 0x80, byte(next(256))}[next(8)]
		}
		kinds := make([]byte, 20)
		for i := range kinds {
			kinds[i] = byte(next(100))
		}
		before := slices.Clone(b)
		checkCalls(t, b, kinds, next(200)-20, ends)
		if !bytes.Equal(b, before) {
			t.Fatalf("a reader changes %x to %x", before, b)
		}
	}
	for _, e := range []api.Errno{api.OK, api.ErrShort, api.ErrBig} {
		if ends[e] == 0 {
			t.Errorf("no call ended with the error %v", e)
		}
	}
}

// P11.1: any bytes, by any calls.
func FuzzReader(f *testing.F) {
	f.Add([]byte{0xb8, 0x00}, []byte{12, 9, 2, 3}, 11)
	f.Add([]byte("\xff\xff\xff\xff\xff\xff\xff\xff\xff\xfe"), []byte{3, 255, 253, 1}, math.MaxInt)
	f.Add([]byte{}, []byte{0, 1, 2, 3}, math.MinInt)
	f.Fuzz(func(t *testing.T, b, kinds []byte, n int) {
		checkCalls(t, b, kinds, n, map[api.Errno]int{})
	})
}

// P11.2: any numbers, in any order.
func FuzzRoundTrip(f *testing.F) {
	f.Add(uint64(5), 3, 2, false)
	f.Add(uint64(math.MaxUint64), math.MaxInt, math.MinInt, true)
	f.Fuzz(func(t *testing.T, n uint64, width, run int, first bool) {
		l := []piece{{n: n, width: width}, {ones: true, width: run}, {n: ^n, width: run}, {ones: true, width: width}}
		if first {
			slices.Reverse(l)
		}
		wantPieces(t, l)
	})
}
