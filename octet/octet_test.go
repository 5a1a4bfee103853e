package octet_test

import (
	"bytes"
	"encoding/binary"
	"encoding/hex"
	"math"
	"math/bits"
	"strings"
	"testing"

	"masthead/api"
	"masthead/octet"
)

// words are integers with bits in all places, and the edges of each width.
func words() []uint64 {
	l := []uint64{0, 1, 258, 0x0102030405060708, 0xfedcba9876543210, 0x8000000000000001, math.MaxUint64}
	for w := range 8 {
		edge := uint64(1) << (8 * w)
		l = append(l, edge-1, edge, edge+1, 0x80<<(8*w))
	}
	x := uint64(0x9e3779b97f4a7c15)
	for range 50 {
		x ^= x << 13
		x ^= x >> 7
		x ^= x << 17
		l = append(l, x)
	}
	return l
}

// turns are numbers of bits to rotate by: within an integer, its edges, beyond it, and negative ones.
func turns() []int {
	l := []int{math.MinInt, math.MinInt + 1, math.MaxInt - 1, math.MaxInt, 1 << 32, -1 << 32, 1<<40 + 5, -1<<40 - 5}
	for k := -200; k <= 200; k++ {
		l = append(l, k)
	}
	return l
}

// modulo is k modulo m, from 0 on.
func modulo(k, m int) int {
	return (k%m + m) % m
}

// widths pairs widths with what they are clamped to.
func widths() map[int]int {
	m := map[int]int{math.MinInt: 0, -9: 0, -8: 0, -1: 0, 9: 8, 16: 8, 64: 8, 1 << 32: 8, math.MaxInt: 8}
	for w := range 9 {
		m[w] = w
	}
	return m
}

func wantBytes(t *testing.T, call string, got, want []byte) {
	t.Helper()
	if !bytes.Equal(got, want) {
		t.Errorf("%s is %v, want %v", call, got, want)
	}
}

// P1.1: the examples of the chapter.
func TestExamples(t *testing.T) {
	wantBytes(t, "Little(258, 3)", octet.Little(258, 3), []byte{2, 1, 0})
	wantBytes(t, "Great(258, 3)", octet.Great(258, 3), []byte{0, 1, 2})
	if got := octet.Left32(0x80000001, 1); got != 3 {
		t.Errorf("Left32(0x80000001, 1) is %#x, want 3", got)
	}
}

// P1.1: Little and Great, of each width, below 0 and above 8.
func TestLittleAndGreat(t *testing.T) {
	for _, n := range words() {
		little := binary.LittleEndian.AppendUint64(nil, n)
		great := binary.BigEndian.AppendUint64(nil, n)
		for width, w := range widths() {
			if got := octet.Little(n, width); !bytes.Equal(got, little[:w]) {
				t.Errorf("Little(%#x, %d) is %v, want %v", n, width, got, little[:w])
			}
			if got := octet.Great(n, width); !bytes.Equal(got, great[8-w:]) {
				t.Errorf("Great(%#x, %d) is %v, want %v", n, width, got, great[8-w:])
			}
		}
	}
}

// P1.1: Num and Big, of no bytes, fewer than 8, 8, and more.
func TestNumAndBig(t *testing.T) {
	all := []byte{0x81, 0x02, 0xf3, 0x04, 0x85, 0x06, 0xf7, 0xff, 0x99, 0xaa, 0xbb}
	little := []uint64{0, 0x81, 0x0281, 0xf30281, 0x04f30281, 0x8504f30281, 0x068504f30281, 0xf7068504f30281, 0xfff7068504f30281}
	great := []uint64{0, 0x81, 0x8102, 0x8102f3, 0x8102f304, 0x8102f30485, 0x8102f3048506, 0x8102f3048506f7, 0x8102f3048506f7ff}
	for size := range len(all) + 1 {
		used := min(size, 8)
		if got := octet.Num(all[:size]); got != little[used] {
			t.Errorf("Num of %d bytes is %#x, want %#x", size, got, little[used])
		}
		if got := octet.Big(all[:size]); got != great[used] {
			t.Errorf("Big of %d bytes is %#x, want %#x", size, got, great[used])
		}
	}
	if octet.Num(nil) != 0 || octet.Big(nil) != 0 {
		t.Error("no bytes are not 0")
	}
}

// P1.1: rotations by 0, by negative numbers of bits, and by more bits than there are.
func TestRotations(t *testing.T) {
	for _, x := range words() {
		y := uint32(x ^ x>>32)
		for _, k := range turns() {
			if got, want := octet.Left32(y, k), bits.RotateLeft32(y, modulo(k, 32)); got != want {
				t.Errorf("Left32(%#x, %d) is %#x, want %#x", y, k, got, want)
			}
			if got, want := octet.Right32(y, k), bits.RotateLeft32(y, 32-modulo(k, 32)); got != want {
				t.Errorf("Right32(%#x, %d) is %#x, want %#x", y, k, got, want)
			}
			if got, want := octet.Left64(x, k), bits.RotateLeft64(x, modulo(k, 64)); got != want {
				t.Errorf("Left64(%#x, %d) is %#x, want %#x", x, k, got, want)
			}
		}
	}
}

// P1.1: rotations whose answers are written out.
func TestRotationsByHand(t *testing.T) {
	const x, y = uint32(0x12345678), uint64(0x123456789abcdef0)
	for _, c := range []struct {
		k               int
		left32, right32 uint32
		left64          uint64
	}{
		{0, 0x12345678, 0x12345678, 0x123456789abcdef0},
		{4, 0x23456781, 0x81234567, 0x23456789abcdef01},
		{-4, 0x81234567, 0x23456781, 0x0123456789abcdef},
		{32, 0x12345678, 0x12345678, 0x9abcdef012345678},
		{36, 0x23456781, 0x81234567, 0xabcdef0123456789},
		{64, 0x12345678, 0x12345678, 0x123456789abcdef0},
		{-68, 0x81234567, 0x23456781, 0x0123456789abcdef},
	} {
		if l, r, w := octet.Left32(x, c.k), octet.Right32(x, c.k), octet.Left64(y, c.k); l != c.left32 || r != c.right32 || w != c.left64 {
			t.Errorf("by %d: %#x, %#x, %#x", c.k, l, r, w)
		}
	}
}

// P1.1: Hex of each byte, of none, and of many.
func TestHex(t *testing.T) {
	var all []byte
	for x := range 256 {
		all = append(all, byte(x))
		if got, want := octet.Hex([]byte{byte(x)}), hex.EncodeToString([]byte{byte(x)}); got != want {
			t.Errorf("Hex of %d is %q, want %q", x, got, want)
		}
	}
	if got, want := octet.Hex(all), hex.EncodeToString(all); got != want {
		t.Errorf("Hex of all bytes is %q, want %q", got, want)
	}
	if octet.Hex(nil) != "" || octet.Hex([]byte{}) != "" {
		t.Error("Hex of no bytes is not empty")
	}
}

// P1.1: Unhex of every text of two bytes: only pairs of the digits of Hex are accepted.
func TestUnhexOfAllPairs(t *testing.T) {
	const digits = "0123456789abcdef"
	for high := range 256 {
		for low := range 256 {
			s := string([]byte{byte(high), byte(low)})
			h, l := strings.IndexByte(digits, byte(high)), strings.IndexByte(digits, byte(low))
			b, e := octet.Unhex(s)
			if h < 0 || l < 0 {
				if e != api.ErrForm || len(b) != 0 {
					t.Errorf("Unhex(%q) is %v, %d, want ErrForm", s, b, e)
				}
			} else if e != api.OK || !bytes.Equal(b, []byte{byte(16*h + l)}) {
				t.Errorf("Unhex(%q) is %v, %d", s, b, e)
			}
		}
	}
}

// P1.1: texts that are nobody's Hex, wherever the fault is.
func TestUnhexOfWrongTexts(t *testing.T) {
	for _, s := range []string{
		"0", "f", "000", "abcde", // an odd length
		"0g", "g0", "00112g", "001g22", "g01122", "0x00", " 00 ", "00 0", "-1", "+1", "00\n0", "\x0000", "é", "００", // a sign that is no digit
		"AF", "aF", "Af", "0A", "00ffFF", "FFff00", // A to F
	} {
		if b, e := octet.Unhex(s); e != api.ErrForm || b != nil {
			t.Errorf("Unhex(%q) is %v, %d, want ErrForm", s, b, e)
		}
	}
}

// P1.1: Unhex of right texts, the empty one among them.
func TestUnhexOfRightTexts(t *testing.T) {
	for s, want := range map[string][]byte{"": nil, "00": {0}, "00af10": {0, 0xaf, 0x10}, "0123456789abcdef": {0x01, 0x23, 0x45, 0x67, 0x89, 0xab, 0xcd, 0xef}} {
		if b, e := octet.Unhex(s); e != api.OK || !bytes.Equal(b, want) {
			t.Errorf("Unhex(%q) is %v, %d, want %v", s, b, e, want)
		}
	}
}

// P1.1: Join of no arguments, of empty lists, of one and of many.
func TestJoin(t *testing.T) {
	wantBytes(t, "Join()", octet.Join(), nil)
	wantBytes(t, "Join(nil)", octet.Join(nil), nil)
	wantBytes(t, "Join of empty lists", octet.Join([]byte{}, nil, []byte{}), nil)
	wantBytes(t, "Join of no lists", octet.Join([][]byte{}...), nil)
	wantBytes(t, "Join of one", octet.Join([]byte{1, 2}), []byte{1, 2})
	wantBytes(t, "Join of some", octet.Join(nil, []byte{3}, []byte{}, []byte{1, 2}, nil, []byte{3}), []byte{3, 1, 2, 3})
	var parts [][]byte
	var want []byte
	for i := range 100 {
		part := bytes.Repeat([]byte{byte(i)}, i%7)
		parts = append(parts, part)
		want = append(want, part...)
	}
	wantBytes(t, "Join of many", octet.Join(parts...), want)
}

// P1.1: no answer shares memory with an argument, and no argument is changed.
func TestJoinSharesNothing(t *testing.T) {
	for count := 1; count <= 3; count++ {
		backing := []byte{1, 2, 3, 4, 5, 6, 7, 8}
		kept := bytes.Clone(backing)
		parts := make([][]byte, count)
		parts[count-1] = backing[:4] // room behind it, which an append would overwrite
		parts[0] = backing[:4]
		got := octet.Join(parts...)
		want := bytes.Clone(got)
		for i := range got {
			got[i] = 0xee
		}
		_ = append(got, 0xee)
		wantBytes(t, "the argument", backing, kept)
		again := octet.Join(parts...)
		clear(backing)
		wantBytes(t, "the answer", again, want)
	}
}

// P1.1: the other functions leave their arguments as they are, and two answers share no memory.
func TestAnswersAreNew(t *testing.T) {
	b := []byte{1, 2, 0xff, 4, 5, 6, 7, 8, 9, 10}
	kept := bytes.Clone(b)
	s := octet.Hex(b)
	octet.Num(b)
	octet.Big(b)
	wantBytes(t, "the argument", b, kept)
	clear(b)
	if s != "0102ff0405060708090a" {
		t.Errorf("Hex changed with its argument: %q", s)
	}
	for name, answer := range map[string]func() []byte{
		"Little": func() []byte { return octet.Little(0x0102030405060708, 8) },
		"Great":  func() []byte { return octet.Great(0x0102030405060708, 8) },
		"Unhex":  func() []byte { b, _ := octet.Unhex("01020304"); return b },
	} {
		first := answer()
		want := bytes.Clone(first)
		clear(first)
		wantBytes(t, "the second answer of "+name, answer(), want)
	}
}

// P1.2: Num undoes Little, and Big undoes Great: of what is within the width, whatever lies above it.
func TestNumbersAreUndone(t *testing.T) {
	for _, n := range words() {
		for width, w := range widths() {
			want := n
			if w < 8 {
				want = n % (1 << (8 * w))
			}
			if got := octet.Num(octet.Little(n, width)); got != want {
				t.Errorf("Num(Little(%#x, %d)) is %#x, want %#x", n, width, got, want)
			}
			if got := octet.Big(octet.Great(n, width)); got != want {
				t.Errorf("Big(Great(%#x, %d)) is %#x, want %#x", n, width, got, want)
			}
		}
	}
}

// P1.2: Little undoes Num, and Great undoes Big, for up to 8 bytes.
func TestBytesAreUndone(t *testing.T) {
	all := []byte{0x80, 0, 0xff, 1, 0x7f, 0, 0, 0x81}
	for from := range len(all) + 1 {
		b := all[from:]
		wantBytes(t, "Little of Num", octet.Little(octet.Num(b), len(b)), b)
		wantBytes(t, "Great of Big", octet.Great(octet.Big(b), len(b)), b)
	}
}

// P1.2: Unhex undoes Hex.
func TestDigitsAreUndone(t *testing.T) {
	var b []byte
	for i := range 600 {
		got, e := octet.Unhex(octet.Hex(b))
		if e != api.OK || !bytes.Equal(got, b) {
			t.Fatalf("Unhex(Hex(%v)) is %v, %d", b, got, e)
		}
		b = append(b, byte(i*i+i/256))
	}
	for x := range 1 << 16 {
		b := []byte{byte(x >> 8), byte(x)}
		if got, e := octet.Unhex(octet.Hex(b)); e != api.OK || !bytes.Equal(got, b) {
			t.Fatalf("Unhex(Hex(%v)) is %v, %d", b, got, e)
		}
	}
}
