package codec_test

import (
	"bytes"
	"encoding/binary"
	"math"
	"slices"
	"strings"
	"testing"

	"masthead/api"
	"masthead/codec"
	"masthead/octet"
)

// text is n bytes with bits in all places, none of them 0, other ones for each seed.
func text(n int, seed uint64) []byte {
	b := make([]byte, n)
	x := seed*0x9e3779b97f4a7c15 + 1
	for i := range b {
		x ^= x << 13
		x ^= x >> 7
		x ^= x << 17
		b[i] = byte(x>>32) | 1
	}
	return b
}

// join is the concatenation of texts, as bytes.
func join(l ...string) []byte {
	return []byte(strings.Join(l, ""))
}

// written is what a writer has after the calls of f.
func written(f func(*codec.Writer)) []byte {
	w := codec.New()
	f(w)
	return w.Bytes()
}

func wantBytes(t *testing.T, call string, got, want []byte) {
	t.Helper()
	if !bytes.Equal(got, want) {
		t.Errorf("%s is %x, want %x", call, got, want)
	}
}

// wantState holds the first error and the number of bytes left of a reader against what they must be.
func wantState(t *testing.T, call string, r *codec.Reader, e api.Errno, left int) {
	t.Helper()
	if r.Err() != e || r.Left() != left {
		t.Errorf("after %s the error is %v and %d bytes are left, want %v and %d", call, r.Err(), r.Left(), e, left)
	}
}

// call is one call on a reader; it tells whether its answer was zero.
type call struct {
	name string
	zero func(r *codec.Reader) bool
}

// calls are calls of each kind, most of which would succeed on a reader without an error.
func calls() []call {
	return []call{
		{"Num(0)", func(r *codec.Reader) bool { return r.Num(0) == 0 }},
		{"Num(1)", func(r *codec.Reader) bool { return r.Num(1) == 0 }},
		{"Num(8)", func(r *codec.Reader) bool { return r.Num(8) == 0 }},
		{"Var(MaxUint64)", func(r *codec.Reader) bool { return r.Var(math.MaxUint64) == 0 }},
		{"Var(0)", func(r *codec.Reader) bool { return r.Var(0) == 0 }},
		{"Take(0)", func(r *codec.Reader) bool { return len(r.Take(0)) == 0 }},
		{"Take(1)", func(r *codec.Reader) bool { return len(r.Take(1)) == 0 }},
		{"Take(-1)", func(r *codec.Reader) bool { return len(r.Take(-1)) == 0 }},
		{"Take(MaxInt)", func(r *codec.Reader) bool { return len(r.Take(math.MaxInt)) == 0 }},
		{"Hash()", func(r *codec.Reader) bool { return r.Hash() == api.Hash{} }},
		{"Text(MaxInt)", func(r *codec.Reader) bool { return len(r.Text(math.MaxInt)) == 0 }},
		{"Text(0)", func(r *codec.Reader) bool { return len(r.Text(0)) == 0 }},
	}
}

// wantStopped checks that a reader has an error, and that no call reads anything or changes that error.
func wantStopped(t *testing.T, what string, r *codec.Reader, e api.Errno, left int) {
	t.Helper()
	wantState(t, what, r, e, left)
	for range 2 {
		for _, c := range calls() {
			if !c.zero(r) {
				t.Errorf("after %s, %s reads something", what, c.name)
			}
			wantState(t, what+" and "+c.name, r, e, left)
		}
		if got := r.End(); got != e {
			t.Errorf("after %s, End is %v, want %v", what, got, e)
		}
		wantState(t, what+" and End", r, e, left)
	}
}

// counts pairs integers with their counts.
func counts() map[uint64]string {
	return map[uint64]string{
		0:                  "\x00",
		1:                  "\x01",
		127:                "\x7f",
		128:                "\x80",
		251:                "\xfb",
		252:                "\xfc",
		253:                "\xfd\xfd\x00",
		254:                "\xfd\xfe\x00",
		255:                "\xfd\xff\x00",
		256:                "\xfd\x00\x01",
		300:                "\xfd\x2c\x01",
		65534:              "\xfd\xfe\xff",
		65535:              "\xfd\xff\xff",
		65536:              "\xfe\x00\x00\x01\x00",
		0x12345678:         "\xfe\x78\x56\x34\x12",
		1<<32 - 1:          "\xfe\xff\xff\xff\xff",
		1 << 32:            "\xff\x00\x00\x00\x00\x01\x00\x00\x00",
		0x123456789abcdef0: "\xff\xf0\xde\xbc\x9a\x78\x56\x34\x12",
		1<<63 - 1:          "\xff\xff\xff\xff\xff\xff\xff\xff\x7f",
		1 << 63:            "\xff\x00\x00\x00\x00\x00\x00\x00\x80",
		math.MaxUint64:     "\xff\xff\xff\xff\xff\xff\xff\xff\xff",
	}
}

// widths pairs widths with what they are clamped to.
func widths() map[int]int {
	m := map[int]int{math.MinInt: 0, -8: 0, -1: 0, 9: 8, 16: 8, 99: 8, math.MaxInt: 8}
	for w := range 9 {
		m[w] = w
	}
	return m
}

// P6.1: the example of the chapter.
func TestExample(t *testing.T) {
	wantBytes(t, "the count 300", written(func(w *codec.Writer) { w.Var(300) }), []byte{253, 44, 1})
	r := codec.Of([]byte{253, 44, 1})
	if n := r.Var(300); n != 300 {
		t.Errorf("253, 44, 1 is the count %d, want 300", n)
	}
	wantState(t, "Var(300)", r, api.OK, 0)
}

// P6.1: a writer and a reader of nothing.
func TestEmpty(t *testing.T) {
	w := codec.New()
	if w == nil || w.Len() != 0 || len(w.Bytes()) != 0 {
		t.Error("a new writer has bytes")
	}
	for _, b := range [][]byte{nil, {}} {
		r := codec.Of(b)
		wantState(t, "Of", r, api.OK, 0)
		if len(r.Take(0)) != 0 || r.Num(0) != 0 || r.End() != api.OK {
			t.Error("a reader of no bytes refuses to read none")
		}
		wantState(t, "reading nothing", r, api.OK, 0)
	}
}

// P6.1: two writers, and two readers of the same bytes, have nothing in common.
func TestApart(t *testing.T) {
	w, v := codec.New(), codec.New()
	w.Var(7)
	if v.Len() != 0 || len(v.Bytes()) != 0 {
		t.Error("what was written to one writer is in another")
	}
	b := []byte("ab")
	r, s := codec.Of(b), codec.Of(b)
	r.Take(1)
	r.Take(2)
	wantState(t, "calls on another reader", s, api.OK, 2)
}

// P6.1: Num writes the least significant bytes, for widths below 0, of 0 to 8, and above 8.
func TestWriterNum(t *testing.T) {
	for _, n := range []uint64{0, 1, 258, 0x0102030405060708, 0xfedcba9876543210, math.MaxUint64} {
		all := binary.LittleEndian.AppendUint64(nil, n)
		for width, clamped := range widths() {
			w := codec.New()
			w.Num(n, width)
			if got := w.Bytes(); !bytes.Equal(got, all[:clamped]) || w.Len() != clamped {
				t.Errorf("Num(%#x, %d) writes %x (Len %d), want %x", n, width, got, w.Len(), all[:clamped])
			}
		}
	}
}

// P6.1: Var writes as few bytes as possible, at all edges.
func TestWriterVar(t *testing.T) {
	for n, want := range counts() {
		w := codec.New()
		w.Var(n)
		if string(w.Bytes()) != want || w.Len() != len(want) {
			t.Errorf("Var(%d) writes %x (Len %d), want %x", n, w.Bytes(), w.Len(), want)
		}
	}
}

// P6.1: Put writes all its arguments in their order, the empty ones too.
func TestWriterPut(t *testing.T) {
	w := codec.New()
	w.Put()
	w.Put(nil)
	w.Put(nil, []byte{}, nil)
	if w.Len() != 0 {
		t.Errorf("nothing was put, and Len is %d", w.Len())
	}
	w.Put([]byte("ab"))
	w.Put([]byte("c"), nil, []byte("def"), []byte{})
	w.Put([][]byte{{'g'}, {0, 0xff}}...)
	wantBytes(t, "what was put", w.Bytes(), []byte("abcdefg\x00\xff"))
	w.Put(w.Bytes(), w.Bytes())
	wantBytes(t, "what was put three times", w.Bytes(), bytes.Repeat([]byte("abcdefg\x00\xff"), 3))
	if w.Len() != 27 {
		t.Errorf("Len is %d, want 27", w.Len())
	}
}

// P6.1: Text writes the count and the bytes, at the edges of the count.
func TestWriterText(t *testing.T) {
	for n, count := range map[int]string{0: "\x00", 1: "\x01", 252: "\xfc", 253: "\xfd\xfd\x00", 65535: "\xfd\xff\xff", 65536: "\xfe\x00\x00\x01\x00"} {
		b := text(n, 1)
		w := codec.New()
		w.Text(b)
		if got, want := w.Bytes(), join(count, string(b)); !bytes.Equal(got, want) || w.Len() != len(want) {
			t.Errorf("the text of %d bytes is written as %d bytes (Len %d), want %d", n, len(got), w.Len(), len(want))
		}
	}
	wantBytes(t, "the text nil", written(func(w *codec.Writer) { w.Text(nil) }), []byte{0})
}

// P6.1: elements of all kinds stand one behind the other; Len and Bytes change nothing.
func TestWriterSequence(t *testing.T) {
	w := codec.New()
	var want []byte
	for _, c := range []struct {
		write func()
		bytes string
	}{
		{func() { w.Num(258, 2) }, "\x02\x01"},
		{func() { w.Text([]byte("ab")) }, "\x02ab"},
		{func() { w.Var(300) }, "\xfd\x2c\x01"},
		{func() { w.Num(7, -1) }, ""},
		{func() { w.Put([]byte("c"), []byte("d")) }, "cd"},
		{func() { w.Text(nil) }, "\x00"},
		{func() { w.Num(1, 99) }, "\x01\x00\x00\x00\x00\x00\x00\x00"},
		{func() { w.Var(0) }, "\x00"},
	} {
		c.write()
		want = append(want, c.bytes...)
		for range 2 {
			wantBytes(t, "what was written", w.Bytes(), want)
			if w.Len() != len(want) {
				t.Errorf("Len is %d, want %d", w.Len(), len(want))
			}
		}
	}
}

// P6.1: a writer keeps nothing that was handed in or told.
func TestWriterMemory(t *testing.T) {
	first, second, third := []byte("ab"), []byte("cd"), []byte("ef")
	w := codec.New()
	w.Put(first, second)
	w.Text(third)
	early := w.Bytes()
	for _, b := range [][]byte{first, second, third} {
		clear(b)
	}
	wantBytes(t, "what was written of bytes that changed", w.Bytes(), []byte("abcd\x02ef"))
	clear(early)
	wantBytes(t, "what was written, behind a change of what Bytes told", w.Bytes(), []byte("abcd\x02ef"))
	before := w.Bytes()
	told := w.Bytes()
	_ = append(told, "zz"...)
	w.Put([]byte("gh"))
	wantBytes(t, "what Bytes told before more was written", before, []byte("abcd\x02ef"))
	wantBytes(t, "what was written at last", w.Bytes(), []byte("abcd\x02efgh"))
	_ = append(told, "zz"...)
	wantBytes(t, "what was written, behind an append to what Bytes told", w.Bytes(), []byte("abcd\x02efgh"))
}

// P6.1: no argument of a writer or a reader is changed.
func TestArgumentsUnchanged(t *testing.T) {
	b, c := []byte("abcd")[:2], []byte("efgh")[:2]
	l := [][]byte{b, nil, c}
	w := codec.New()
	w.Put(l...)
	w.Text(b)
	w.Put([]byte("xyz"))
	if string(b[:4]) != "abcd" || string(c[:4]) != "efgh" || string(l[0]) != "ab" || l[1] != nil || string(l[2]) != "ef" {
		t.Error("a writer changes its arguments")
	}
	r := codec.Of(b)
	got := r.Take(1)
	got[0] = 'z'
	_ = append(got, "zz"...)
	if string(b[:4]) != "abcd" {
		t.Error("a reader shares memory with its argument")
	}
}

// P6.1: Take of a negative number, of none, of a part, of all that is left, and of one more.
func TestTake(t *testing.T) {
	b := text(10, 2)
	for n := -2; n <= 10; n++ {
		r := codec.Of(b)
		size := max(n, 0)
		wantBytes(t, "what was taken", r.Take(n), b[:size])
		wantState(t, "Take", r, api.OK, 10-size)
		wantBytes(t, "the rest", r.Take(10-size), b[size:])
		wantState(t, "Take of the rest", r, api.OK, 0)
	}
	r := codec.Of(b)
	wantBytes(t, "Take(MinInt)", r.Take(math.MinInt), nil)
	wantState(t, "Take(MinInt)", r, api.OK, 10)
	for _, n := range []int{11, 12, 1000, 1 << 32, 1 << 40, math.MaxInt - 1, math.MaxInt} {
		r := codec.Of(b)
		if got := r.Take(n); len(got) != 0 {
			t.Errorf("Take(%d) of 10 bytes is %x", n, got)
		}
		wantStopped(t, "Take of too many bytes", r, api.ErrShort, 10)
	}
	r = codec.Of(b)
	r.Take(4)
	if got := r.Take(7); len(got) != 0 {
		t.Errorf("Take(7) of 6 bytes is %x", got)
	}
	wantStopped(t, "Take of one more than is left", r, api.ErrShort, 6)
	r = codec.Of(b)
	r.Take(10)
	if got := r.Take(1); len(got) != 0 {
		t.Errorf("Take(1) of no bytes is %x", got)
	}
	wantStopped(t, "Take at the end", r, api.ErrShort, 0)
}

// P6.1: Num of widths below 0, of 0 to 8, and above 8, with just enough bytes, with more, and with one too few.
func TestReaderNum(t *testing.T) {
	all := []byte{0xf1, 0x02, 0x03, 0x04, 0x05, 0x06, 0x07, 0x88}
	for width, clamped := range widths() {
		want := binary.LittleEndian.Uint64(append(slices.Clone(all[:clamped]), make([]byte, 8-clamped)...))
		for more := range 4 {
			r := codec.Of(append(slices.Clone(all[:clamped]), bytes.Repeat([]byte{0xee}, more)...))
			if got := r.Num(width); got != want {
				t.Errorf("Num(%d) is %#x, want %#x", width, got, want)
			}
			wantState(t, "Num", r, api.OK, more)
		}
		if clamped == 0 {
			continue
		}
		r := codec.Of(all[:clamped-1])
		if got := r.Num(width); got != 0 {
			t.Errorf("Num(%d) of %d bytes is %#x", width, clamped-1, got)
		}
		wantStopped(t, "Num of too few bytes", r, api.ErrShort, clamped-1)
	}
}

// P6.1: Var of each count: with more bytes behind it, cut off everywhere, and for a most of just it and of one less.
func TestReaderVar(t *testing.T) {
	for n, s := range counts() {
		for more := range 3 {
			for _, most := range []uint64{n, math.MaxUint64, max(n, n+1)} {
				r := codec.Of(join(s, strings.Repeat("\xff", more)))
				if got := r.Var(most); got != n {
					t.Errorf("Var(%d) of %x is %d, want %d", most, s, got, n)
				}
				wantState(t, "Var", r, api.OK, more)
			}
		}
		for size := range len(s) {
			for _, most := range []uint64{0, n, math.MaxUint64} {
				r := codec.Of([]byte(s[:size]))
				if got := r.Var(most); got != 0 {
					t.Errorf("Var of the incomplete %x is %d", s[:size], got)
				}
				wantStopped(t, "an incomplete count", r, api.ErrShort, size)
			}
		}
		if n == 0 {
			continue
		}
		for _, most := range []uint64{n - 1, n / 2, 0} {
			r := codec.Of(join(s, "abc"))
			if got := r.Var(most); got != 0 {
				t.Errorf("Var(%d) of %x is %d", most, s, got)
			}
			wantStopped(t, "a count that is too great", r, api.ErrBig, len(s)+3)
		}
	}
}

// long returns the count of n in more bytes than it needs: a first byte, and so many more.
func long(n uint64, first byte, more int) string {
	return string(append([]byte{first}, binary.LittleEndian.AppendUint64(nil, n)[:more]...))
}

// P6.1, P6.2: of the four forms of a count, only the shortest one is read; a longer one is ErrForm, whatever most is, unless it is incomplete.
func TestLongCounts(t *testing.T) {
	refused := 0
	for n := range counts() {
		for _, form := range []struct {
			first byte
			more  int
			least uint64 // what needs this form
		}{{253, 2, 253}, {254, 4, 1 << 16}, {255, 8, 1 << 32}} {
			if n >= form.least {
				continue
			}
			s := long(n, form.first, form.more)
			for _, most := range []uint64{0, n, math.MaxUint64} {
				r := codec.Of(join(s, "\x01\x02"))
				if got := r.Var(most); got != 0 {
					t.Errorf("Var(%d) of the long %x is %d", most, s, got)
				}
				wantStopped(t, "a long count", r, api.ErrForm, len(s)+2)
				r = codec.Of([]byte(s[:len(s)-1]))
				if got := r.Var(most); got != 0 {
					t.Errorf("Var(%d) of the long and incomplete %x is %d", most, s, got)
				}
				wantStopped(t, "a long and incomplete count", r, api.ErrShort, len(s)-1)
			}
			r := codec.Of(join(s, string(text(300, 3))))
			if got := r.Text(math.MaxInt); len(got) != 0 {
				t.Errorf("the text of a long count is %x", got)
			}
			wantStopped(t, "a text of a long count", r, api.ErrForm, len(s)+300)
			refused++
		}
	}
	if refused == 0 {
		t.Error("no long count was tried")
	}
}

// P6.2: among all counts of one byte and of three, each integer of 16 bits has one, which is what a writer writes.
func TestOneCount(t *testing.T) {
	var tried [][]byte
	for x := range 1 << 8 {
		tried = append(tried, []byte{byte(x)})
	}
	for x := range 1 << 16 {
		tried = append(tried, []byte{253, byte(x), byte(x >> 8)})
	}
	seen := map[uint64]bool{}
	for _, b := range tried {
		r := codec.Of(b)
		n := r.Var(math.MaxUint64)
		if r.Err() != api.OK {
			continue
		}
		if seen[n] {
			t.Fatalf("%d has a second count, %x", n, b)
		}
		seen[n] = true
		wantBytes(t, "the count of what was read", written(func(w *codec.Writer) { w.Var(n) }), b)
	}
	if len(seen) != 1<<16 {
		t.Errorf("%d integers of 16 bits have a count, want %d", len(seen), 1<<16)
	}
}

// P6.1: Hash of 31, 32 and 33 bytes.
func TestHash(t *testing.T) {
	b := text(33, 4)
	r := codec.Of(b[:31])
	if got := r.Hash(); got != (api.Hash{}) {
		t.Errorf("the hash of 31 bytes is %x", got)
	}
	wantStopped(t, "a hash of 31 bytes", r, api.ErrShort, 31)
	for size := 32; size <= 33; size++ {
		r = codec.Of(b[:size])
		if got := r.Hash(); got != api.Hash(b[:32]) {
			t.Errorf("the hash of %x is %x", b[:size], got)
		}
		wantState(t, "Hash", r, api.OK, size-32)
		if got := r.Hash(); got != (api.Hash{}) {
			t.Errorf("a second hash is %x", got)
		}
		wantStopped(t, "a second hash", r, api.ErrShort, size-32)
	}
	r = codec.Of(nil)
	if got := r.Hash(); got != (api.Hash{}) {
		t.Errorf("the hash of no bytes is %x", got)
	}
	wantStopped(t, "a hash of no bytes", r, api.ErrShort, 0)
}

// P6.1: texts at the edges of their count, for a most of just their bytes, of one less, and with one byte too few.
func TestReaderText(t *testing.T) {
	for _, n := range []int{0, 1, 2, 252, 253, 254, 65535, 65536} {
		b := text(n, 5)
		whole := written(func(w *codec.Writer) { w.Text(b) })
		for more := range 3 {
			for _, most := range []int{n, n + 1, math.MaxInt} {
				r := codec.Of(append(slices.Clone(whole), bytes.Repeat([]byte{0xdd}, more)...))
				if got := r.Text(most); !bytes.Equal(got, b) {
					t.Errorf("Text(%d) has %d bytes, want %d", most, len(got), n)
				}
				wantState(t, "Text", r, api.OK, more)
			}
		}
		if n == 0 {
			continue
		}
		for _, most := range []int{n - 1, 0, -1, math.MinInt} {
			r := codec.Of(whole)
			if got := r.Text(most); len(got) != 0 {
				t.Errorf("Text(%d) has %d bytes of a text of %d", most, len(got), n)
			}
			wantStopped(t, "a text of too many bytes", r, api.ErrBig, len(whole))
		}
		r := codec.Of(whole[:len(whole)-1])
		if got := r.Text(n); len(got) != 0 {
			t.Errorf("Text has %d bytes of a text that is cut off", len(got))
		}
		wantStopped(t, "a text that is cut off", r, api.ErrShort, len(whole)-1)
	}
}

// P6.1: a negative most counts as 0: a text of no bytes is read, any other one is too great.
func TestTextOfNegativeMost(t *testing.T) {
	for _, most := range []int{0, -1, -2, math.MinInt} {
		r := codec.Of([]byte("\x00\x00a"))
		for left := 2; left > 0; left-- {
			if got := r.Text(most); len(got) != 0 {
				t.Errorf("Text(%d) is %x", most, got)
			}
			wantState(t, "Text of no bytes", r, api.OK, left)
		}
		r = codec.Of([]byte("\x01a"))
		if got := r.Text(most); len(got) != 0 {
			t.Errorf("Text(%d) is %x", most, got)
		}
		wantStopped(t, "Text of one byte", r, api.ErrBig, 2)
	}
}

// P6.1: the error of the count of a text goes ahead of that of its bytes; nothing of it is read, not even the count.
func TestTextErrors(t *testing.T) {
	for _, c := range []struct {
		bytes string
		most  int
		want  api.Errno
	}{
		{"", 0, api.ErrShort},
		{"", math.MaxInt, api.ErrShort},
		{"\xfd", 9, api.ErrShort},
		{"\xfd\x01", 9, api.ErrShort},
		{"\xfe\x01\x00\x00", 9, api.ErrShort},
		{"\xff\x01\x00\x00\x00\x00\x00\x00", 9, api.ErrShort},
		{"\xfd\x01\x00a", 9, api.ErrForm},
		{"\xfd\x01\x00", 0, api.ErrForm},
		{"\xfd\xfc\x00", 0, api.ErrForm},
		{"\xfe\xff\xff\x00\x00", 0, api.ErrForm},
		{"\xff\xff\xff\xff\xff\x00\x00\x00\x00", 0, api.ErrForm},
		{"\x03abc", 2, api.ErrBig},
		{"\x03", 2, api.ErrBig},
		{"\x03ab", 3, api.ErrShort},
		{"\x03", 3, api.ErrShort},
		{"\x01", math.MaxInt, api.ErrShort},
		{"\xfd\xfd\x00abc", 252, api.ErrBig},
		{"\xfd\xfd\x00abc", 253, api.ErrShort},
		{"\xfe\xff\xff\xff\xffabc", math.MaxInt, api.ErrShort},
		{"\xff\xff\xff\xff\xff\xff\xff\xff\x7fabc", math.MaxInt, api.ErrShort},
		{"\xff\xff\xff\xff\xff\xff\xff\xff\x7fabc", math.MaxInt - 1, api.ErrBig},
		{"\xff\x00\x00\x00\x00\x00\x00\x00\x80abc", math.MaxInt, api.ErrBig},
		{"\xff\xff\xff\xff\xff\xff\xff\xff\xffabc", math.MaxInt, api.ErrBig},
		{"\xff\xff\xff\xff\xff\xff\xff\xff\xffabc", -1, api.ErrBig},
	} {
		for _, ahead := range []string{"", "x", "\x01"} {
			r := codec.Of(join(ahead, c.bytes))
			r.Take(len(ahead))
			if got := r.Text(c.most); len(got) != 0 {
				t.Errorf("Text(%d) of %x is %x", c.most, c.bytes, got)
			}
			wantStopped(t, "a text that fails", r, c.want, len(c.bytes))
		}
	}
}

// P6.3: behind each error no call reads anything, not even what would succeed, and the first error stays.
func TestErrorIsKept(t *testing.T) {
	behind := "\x01a" + strings.Repeat("b", 100)
	for _, c := range []struct {
		name string
		fail func(r *codec.Reader)
		want api.Errno
	}{
		{"Take", func(r *codec.Reader) { r.Take(1000) }, api.ErrShort},
		{"Text that is too long", func(r *codec.Reader) { r.Text(0) }, api.ErrBig},
		{"Var that is too great", func(r *codec.Reader) { r.Var(0) }, api.ErrBig},
		{"End", func(r *codec.Reader) { r.End() }, api.ErrForm},
	} {
		r := codec.Of([]byte(behind))
		c.fail(r)
		wantStopped(t, c.name, r, c.want, len(behind))
	}
	r := codec.Of([]byte("\xfd\x00\x00" + behind))
	r.Var(math.MaxUint64)
	wantStopped(t, "Var of a long count", r, api.ErrForm, len(behind)+3)
	r.Take(1000) // would be ErrShort
	r.Var(0)
	wantState(t, "other errors behind the first one", r, api.ErrForm, len(behind)+3)
	r = codec.Of([]byte("ab"))
	r.Num(8)
	if e := r.End(); e != api.ErrShort {
		t.Errorf("End behind ErrShort is %v with bytes left", e)
	}
	wantStopped(t, "Num of too few bytes, and End", r, api.ErrShort, 2)
}

// P6.1, P6.3: End with nothing left is OK, as often as it is asked, and does not end the reader; with bytes left it is ErrForm from then on.
func TestEnd(t *testing.T) {
	r := codec.Of([]byte("abc"))
	r.Take(3)
	for range 3 {
		if e := r.End(); e != api.OK {
			t.Errorf("End is %v with nothing left", e)
		}
		if len(r.Take(0)) != 0 || r.Num(0) != 0 {
			t.Error("no bytes are read as some")
		}
		wantState(t, "End with nothing left", r, api.OK, 0)
	}
	r.Take(1)
	wantStopped(t, "Take behind an End that was OK", r, api.ErrShort, 0)
	for left := 1; left <= 3; left++ {
		r := codec.Of([]byte("\x00\x00\x00"))
		r.Take(3 - left)
		wantState(t, "Take", r, api.OK, left)
		if e := r.End(); e != api.ErrForm {
			t.Errorf("End is %v with %d bytes left", e, left)
		}
		wantStopped(t, "End", r, api.ErrForm, left)
	}
}

// P6.1: Err and Left change nothing, and asking them is no reading.
func TestErrAndLeft(t *testing.T) {
	r := codec.Of([]byte("abc"))
	for left := 3; left > 0; left-- {
		for range 3 {
			wantState(t, "Err and Left", r, api.OK, left)
		}
		r.Take(1)
	}
	if e := r.End(); e != api.OK {
		t.Errorf("End is %v", e)
	}
}

// P6.1: a reader reads the bytes as they were handed in, whatever becomes of them and of what it told.
func TestReaderMemory(t *testing.T) {
	b := []byte("abcd\x02ef\x02gh")
	r := codec.Of(b)
	copy(b, "ZZ")
	first := r.Take(2)
	wantBytes(t, "bytes that were changed behind Of", first, []byte("ab"))
	copy(b, strings.Repeat("Y", len(b)))
	clear(first)
	_ = append(first, "XXXX"...)
	wantBytes(t, "what comes behind bytes that were changed", r.Take(2), []byte("cd"))
	text := r.Text(2)
	wantBytes(t, "a text", text, []byte("ef"))
	clear(text)
	_ = append(text, "XXXX"...)
	none := r.Take(0)
	_ = append(none, "XXXX"...)
	wantBytes(t, "a text behind a changed one", r.Text(2), []byte("gh"))
	if e := r.End(); e != api.OK {
		t.Errorf("End is %v", e)
	}
}

// P6.1: what was told stays as it was when more is read.
func TestToldStays(t *testing.T) {
	r := codec.Of([]byte("ab\x02cdefgh"))
	taken, text := r.Take(2), r.Text(2)
	r.Take(4)
	wantBytes(t, "what Take told", taken, []byte("ab"))
	wantBytes(t, "what Text told", text, []byte("cd"))
}

// P6.2: a reader reads what a writer wrote, element by element, and nothing is left.
func TestReadWhatWasWritten(t *testing.T) {
	w := codec.New()
	h := api.Hash(text(32, 6))
	for width := range 9 {
		w.Num(math.MaxUint64-7, width)
	}
	sorted := make([]uint64, 0, len(counts()))
	for n := range counts() {
		sorted = append(sorted, n)
	}
	slices.Sort(sorted)
	for _, n := range sorted {
		w.Var(n)
	}
	w.Put(h[:], []byte("xyz"))
	sizes := []int{0, 1, 252, 253, 1000, 65535, 65536}
	for _, n := range sizes {
		w.Text(text(n, 7))
	}
	r := codec.Of(w.Bytes())
	wantState(t, "Of", r, api.OK, w.Len())
	for width := range 9 {
		if got, want := r.Num(width), octet.Num(octet.Little(math.MaxUint64-7, width)); got != want {
			t.Errorf("Num(%d) is %#x, want %#x", width, got, want)
		}
	}
	for _, n := range sorted {
		if got := r.Var(n); got != n {
			t.Errorf("the count is %d, want %d", got, n)
		}
	}
	if got := r.Hash(); got != h {
		t.Errorf("the hash is %x, want %x", got, h)
	}
	wantBytes(t, "Take(3)", r.Take(3), []byte("xyz"))
	for _, n := range sizes {
		wantBytes(t, "a text", r.Text(n), text(n, 7))
	}
	if e := r.End(); e != api.OK || r.Left() != 0 {
		t.Errorf("End is %v with %d bytes left", e, r.Left())
	}
}

// model is a reader as the chapter says it, by positions in bytes that nobody changes.
type model struct {
	bytes []byte
	at    int
	err   api.Errno
}

// take moves on by n bytes, or keeps ErrShort.
func (m *model) take(n int) []byte {
	if m.err != api.OK {
		return nil
	}
	if n < 0 {
		n = 0
	}
	if n > len(m.bytes)-m.at {
		m.err = api.ErrShort
		return nil
	}
	m.at += n
	return m.bytes[m.at-n : m.at]
}

func (m *model) num(width int) uint64 {
	var all [8]byte
	copy(all[:], m.take(max(0, min(8, width))))
	return binary.LittleEndian.Uint64(all[:])
}

func (m *model) count(most uint64) uint64 {
	start := m.at
	n := m.num(1)
	least := uint64(0)
	switch n {
	case 253:
		n, least = m.num(2), 253
	case 254:
		n, least = m.num(4), 65536
	case 255:
		n, least = m.num(8), 1<<32
	}
	if m.err == api.OK && n < least {
		m.err = api.ErrForm
	}
	if m.err == api.OK && n > most {
		m.err = api.ErrBig
	}
	if m.err != api.OK {
		m.at = start
		return 0
	}
	return n
}

func (m *model) text(most int) []byte {
	start := m.at
	b := m.take(int(m.count(uint64(max(0, most)))))
	if m.err != api.OK {
		m.at = start
	}
	return b
}

func (m *model) end() api.Errno {
	if m.err == api.OK && m.at < len(m.bytes) {
		m.err = api.ErrForm
	}
	return m.err
}

// checkStep makes one call, of a kind and with a number, on both.
func checkStep(t *testing.T, r *codec.Reader, m *model, kind byte, n int) {
	t.Helper()
	same := true
	switch kind % 6 {
	case 0:
		same = r.Num(n) == m.num(n)
	case 1:
		same = r.Var(uint64(n)) == m.count(uint64(n))
	case 2:
		same = bytes.Equal(r.Take(n), m.take(n))
	case 3:
		var want api.Hash
		copy(want[:], m.take(32))
		same = r.Hash() == want
	case 4:
		same = bytes.Equal(r.Text(n), m.text(n))
	case 5:
		same = r.End() == m.end()
	}
	if !same {
		t.Fatalf("a call of kind %d with %d answers differently at byte %d of %x", kind%6, n, m.at, m.bytes)
	}
	if r.Err() != m.err || r.Left() != len(m.bytes)-m.at {
		t.Fatalf("behind a call of kind %d with %d: error %v and %d left, want %v and %d", kind%6, n, r.Err(), r.Left(), m.err, len(m.bytes)-m.at)
	}
}

// numbers are arguments for any call.
func numbers() []int {
	return []int{0, 1, 2, 3, 8, 9, 32, 252, 253, 300, 65535, 65536, 1 << 32, -1, math.MinInt, math.MaxInt, math.MaxInt - 1}
}

// P6.1, P6.3: readers of many bytes, by many orders of calls, as the chapter says it.
func TestManyOrders(t *testing.T) {
	l := numbers()
	ends := map[api.Errno]int{}
	for seed := range uint64(5000) {
		x := seed*0x9e3779b97f4a7c15 + 0x1234567
		next := func(n int) int {
			x ^= x << 13
			x ^= x >> 7
			x ^= x << 17
			return int(x>>33) % n
		}
		b := make([]byte, next(90))
		for i := range b {
			b[i] = []byte{0, 1, 2, 3, 5, 251, 252, 253, 254, 255}[next(10)]
		}
		r, m := codec.Of(b), &model{bytes: slices.Clone(b)}
		for range 12 {
			checkStep(t, r, m, []byte{0, 0, 1, 1, 2, 2, 3, 4, 4, 4, 5}[next(11)], l[next(len(l))])
		}
		ends[m.err]++
	}
	for _, e := range []api.Errno{api.OK, api.ErrShort, api.ErrForm, api.ErrBig} {
		if ends[e] == 0 {
			t.Errorf("no order of calls ended with the error %v", e)
		}
	}
}

// P6.1, P6.3: any bytes, by any calls.
func FuzzReader(f *testing.F) {
	f.Add([]byte("\x02\x01\x02abcd"), []byte{0, 4, 2, 5}, 2)
	f.Add([]byte("\xfd\xfc\x00"), []byte{1, 1}, 300)
	f.Add([]byte("\xff\xff\xff\xff\xff\xff\xff\xff\xff"), []byte{4, 4}, math.MaxInt)
	f.Fuzz(func(t *testing.T, b, kinds []byte, n int) {
		r, m := codec.Of(b), &model{bytes: slices.Clone(b)}
		for _, k := range kinds {
			checkStep(t, r, m, k, n)
		}
	})
}

// P6.2: any integer and any text.
func FuzzRoundTrip(f *testing.F) {
	f.Add(uint64(300), 2, []byte("ab"))
	f.Add(uint64(math.MaxUint64), 99, []byte{})
	f.Fuzz(func(t *testing.T, n uint64, width int, b []byte) {
		w := codec.New()
		w.Num(n, width)
		w.Var(n)
		w.Text(b)
		r := codec.Of(w.Bytes())
		if r.Num(width) != octet.Num(octet.Little(n, width)) || r.Var(n) != n || !bytes.Equal(r.Text(len(b)), b) || r.End() != api.OK {
			t.Errorf("%d, %d and %x are not read as they were written: %v", n, width, b, r.Err())
		}
	})
}
