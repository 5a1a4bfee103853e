package txn_test

import (
	"bytes"
	"crypto/sha256"
	"encoding/hex"
	"fmt"
	"math"
	"math/big"
	"slices"
	"strings"
	"testing"

	"masthead/api"
	"masthead/txn"
)

const (
	// maxOuts is how many outputs a transaction has at the most.
	maxOuts = 8
	// maxItem is how many bytes an item has at the most.
	maxItem = 64
	// barred is how many bytes no encoding has.
	barred = 64
)

// scattered are n integers with bits in all places, other ones for each seed.
func scattered(n int, seed uint64) []uint64 {
	l := make([]uint64, n)
	x := seed*0x9e3779b97f4a7c15 + 1
	for i := range l {
		x ^= x << 13
		x ^= x >> 7
		x ^= x << 17
		l[i] = x * 0x2545f4914f6cdd1d
	}
	return l
}

// numbers are salts and values at the edges of all their bytes.
func numbers() []uint64 {
	l := []uint64{0, 1, 2, 5, 64, 127, 252, 253, 254, 0x0102030405060708, math.MaxUint64 - 1, math.MaxUint64}
	for i := 8; i < 64; i += 8 {
		l = append(l, 1<<i-1, 1<<i, 255<<i)
	}
	return l
}

// filled is an item of n bytes, other ones for each n and mark.
func filled(n, mark int) []byte {
	item := make([]byte, n)
	for i := range item {
		item[i] = byte(mark + 7*i + n)
	}
	return item
}

// paying is a transaction with items of these lengths.
func paying(salt uint64, lengths ...int) txn.Tx {
	t := txn.Tx{Salt: salt}
	for i, n := range lengths {
		t.Outs = append(t.Outs, txn.Out{Value: salt ^ uint64(i)<<(8*i), Item: filled(n, i)})
	}
	return t
}

// little is the width bytes of n, least significant first.
func little(n uint64, width int) string {
	var s strings.Builder
	for i := range width {
		s.WriteByte(byte(n >> (8 * i)))
	}
	return s.String()
}

// bytesOf is what Bytes must answer, as the chapter says it.
func bytesOf(t txn.Tx) (string, api.Errno) {
	if len(t.Outs) > maxOuts {
		return "", api.ErrBig
	}
	s := "\x01" + little(t.Salt, 8) + little(uint64(len(t.Outs)), 1)
	for _, out := range t.Outs {
		if len(out.Item) > maxItem {
			return "", api.ErrBig
		}
		s += little(out.Value, 8) + little(uint64(len(out.Item)), 1) + string(out.Item)
	}
	if len(s) == barred {
		return "", api.ErrForm
	}
	return s, api.OK
}

// unread is what a model of Parse did not yet read.
type unread string

// take reads n bytes; it panics with the error.
func (u *unread) take(n int) string {
	if len(*u) < n {
		panic(api.ErrShort)
	}
	s := (*u)[:n]
	*u = (*u)[n:]
	return string(s)
}

// num reads an integer of n bytes.
func (u *unread) num(n int) uint64 {
	sum := new(big.Int)
	for i, x := range []byte(u.take(n)) {
		sum.Add(sum, new(big.Int).Lsh(big.NewInt(int64(x)), uint(8*i)))
	}
	return sum.Uint64()
}

// count reads a count, as the chapter of layer 6 says it.
func (u *unread) count(most uint64) int {
	n := u.num(1)
	for i, least := range []uint64{253, 1 << 16, 1 << 32} {
		if n == 253+uint64(i) {
			n = u.num(2 << i)
			if n < least {
				panic(api.ErrForm)
			}
			break
		}
	}
	if n > most {
		panic(api.ErrBig)
	}
	return int(n)
}

// parsed is what Parse must answer, as the chapter says it, element by element.
func parsed(b []byte) (t txn.Tx, e api.Errno) {
	if len(b) == barred {
		return txn.Tx{}, api.ErrForm
	}
	defer func() {
		if p := recover(); p != nil {
			t, e = txn.Tx{}, p.(api.Errno)
		}
	}()
	u := unread(b)
	if u.num(1) != 1 {
		return txn.Tx{}, api.ErrForm
	}
	t.Salt = u.num(8)
	for range u.count(maxOuts) {
		value := u.num(8)
		t.Outs = append(t.Outs, txn.Out{Value: value, Item: []byte(u.take(u.count(maxItem)))})
	}
	if u != "" {
		return txn.Tx{}, api.ErrForm
	}
	return t, api.OK
}

// same reports whether two transactions are the same; a nil item and an empty one are.
func same(a, b txn.Tx) bool {
	return a.Salt == b.Salt && slices.EqualFunc(a.Outs, b.Outs, func(x, y txn.Out) bool {
		return x.Value == y.Value && bytes.Equal(x.Item, y.Item)
	})
}

// copied is a transaction in memory of its own.
func copied(t txn.Tx) txn.Tx {
	t.Outs = slices.Clone(t.Outs)
	for i := range t.Outs {
		t.Outs[i].Item = bytes.Clone(t.Outs[i].Item)
	}
	return t
}

// wantBytes holds Bytes against the chapter's words, and what Parse makes of it against the transaction; it returns the error.
func wantBytes(t *testing.T, x txn.Tx) api.Errno {
	t.Helper()
	want, wantErr := bytesOf(x)
	got, e := x.Bytes()
	if e != wantErr || string(got) != want {
		t.Fatalf("Bytes of %x is %x, %v, want %x, %v", x, got, e, want, wantErr)
	}
	if e == api.OK {
		if y, e := txn.Parse(got); e != api.OK || !same(x, y) {
			t.Fatalf("Parse of %x is %x, %v, want %x", got, y, e, x)
		}
	}
	return e
}

// wantParse holds Parse against the chapter's words, and the encoding of what it answers against b; it returns the error.
func wantParse(t *testing.T, b []byte) api.Errno {
	t.Helper()
	want, wantErr := parsed(b)
	got, e := txn.Parse(b)
	if e != wantErr || !same(got, want) {
		t.Fatalf("Parse of %x is %x, %v, want %x, %v", b, got, e, want, wantErr)
	}
	if e != api.OK && (got.Salt != 0 || len(got.Outs) != 0) {
		t.Fatalf("Parse of %x is %x beside the error %v", b, got, e)
	}
	if e == api.OK {
		if again, e := got.Bytes(); e != api.OK || !bytes.Equal(again, b) {
			t.Fatalf("Parse of %x is %x, whose Bytes are %x, %v", b, got, again, e)
		}
	}
	return e
}

// wantAll finds each of the errors among those that were counted.
func wantAll(t *testing.T, ends map[api.Errno]int, l ...api.Errno) {
	t.Helper()
	for _, e := range l {
		if ends[e] == 0 {
			t.Errorf("no call ended with the error %v", e)
		}
	}
}

// valid are transactions of all shapes: with no output and with as many as may be, with empty items and with those of as many bytes as may be.
func valid() []txn.Tx {
	l := []txn.Tx{paying(0), paying(5), paying(math.MaxUint64)}
	for n := 1; n <= maxOuts; n++ {
		for _, length := range []int{0, 1, 2, 31, 32, 63, 64} {
			l = append(l, paying(uint64(n)<<33, slices.Repeat([]int{length}, n)...))
		}
	}
	l = append(l, paying(1, 64, 0, 63, 1, 32, 2), paying(2, 0, 64, 0), paying(3, 0, 1, 2, 3, 4, 5, 6, 7))
	return slices.DeleteFunc(l, func(x txn.Tx) bool {
		_, e := bytesOf(x)
		return e != api.OK
	})
}

// P14.1: the example of the chapter.
func TestExample(t *testing.T) {
	want := []byte{1, 5, 0, 0, 0, 0, 0, 0, 0, 0}
	for _, outs := range [][]txn.Out{nil, {}, make([]txn.Out, 0, 3)} {
		if b, e := (txn.Tx{Salt: 5, Outs: outs}).Bytes(); e != api.OK || !bytes.Equal(b, want) {
			t.Errorf("Bytes is %x, %v, want %x", b, e, want)
		}
	}
	if x, e := txn.Parse(want); e != api.OK || x.Salt != 5 || len(x.Outs) != 0 {
		t.Errorf("Parse is %x, %v", x, e)
	}
}

// P14.1, P14.2: transactions, their encodings and their ids that are written out here.
func TestWrittenOut(t *testing.T) {
	out := func(value uint64, item string) txn.Out { return txn.Out{Value: value, Item: []byte(item)} }
	for _, c := range []struct {
		salt     uint64
		outs     []txn.Out
		want, id string
	}{
		{0, nil, "01000000000000000000", "43ec7a579f5561a42a7e9637ad4156672735a658be2752181801f723ba3316d2"},
		{5, nil, "01050000000000000000", "66d3d3e85546fb7dd54ec5ef7c26374e36ce4b46ab9e2f4ae0399ef7455293b8"},
		{math.MaxUint64, nil, "01ffffffffffffffff00", "a0273bf6b900bbd729467440b44e3c25985ad056d625ebb56d9055e76708ac4f"},
		{0x0102030405060708, []txn.Out{{}}, "01080706050403020101000000000000000000", "5e75d2fd9ac09b258d5d72cca4294aff3088082a2d1c1b1a141606e0675593ca"},
		{7, []txn.Out{out(0x1122334455667788, "shop")}, "0107000000000000000188776655443322110473686f70", "b30af0a74b46e4b64818baf2e2b57efa93cc7ca3cf71cb6d446112637d5e552c"},
		{258, []txn.Out{out(3, "ab"), out(math.MaxUint64, ""), out(1, "")}, "010201000000000000030300000000000000026162ffffffffffffffff00010000000000000000", "902bbe31ae7dd6eb90d00a11648bb6d46827e239819ff432aeda1fcc9e5c28f0"},
		{0, []txn.Out{out(1, "a"), out(2, "a"), out(1, "a")}, "01000000000000000003010000000000000001610200000000000000016101000000000000000161", "56cd149913e7b649c5b854bdbf26b30322bd0f8ab9cba8d6c691838d098e0d0d"},
		{9, []txn.Out{out(50, strings.Repeat("x", 44))}, "0109000000000000000132000000000000002c" + strings.Repeat("78", 44), "a6a35abbd4597af8b2116e6f8f0a9866efd94c06a3c140ee7695916b2121e8a1"},
		{9, []txn.Out{out(50, strings.Repeat("x", 46))}, "0109000000000000000132000000000000002e" + strings.Repeat("78", 46), "a57157622e3f6951dd12ce4449d57b0ba6e3ee0b75da9ea283c9c8d21ab2985f"},
		{9, []txn.Out{out(50, strings.Repeat("x", 64))}, "01090000000000000001320000000000000040" + strings.Repeat("78", 64), "0f0c7ac07aabe35d105232b5166dfb3e5e451adeb6e62ecc5a1b3a5357623bbb"},
		{math.MaxUint64, slices.Repeat([]txn.Out{out(math.MaxUint64, strings.Repeat("\xff", 64))}, 8), "01ffffffffffffffff08" + strings.Repeat("ffffffffffffffff40"+strings.Repeat("ff", 64), 8), "c3c37eb21ef8dab576df78016b69cd8c59f01c1ac582dce0cdb0d65b73f37ab8"},
	} {
		x := txn.Tx{Salt: c.salt, Outs: c.outs}
		b, e := x.Bytes()
		if e != api.OK || hex.EncodeToString(b) != c.want {
			t.Errorf("Bytes of %x is %x, %v, want %s", x, b, e, c.want)
		}
		want, _ := hex.DecodeString(c.want)
		if y, e := txn.Parse(want); e != api.OK || !same(x, y) {
			t.Errorf("Parse of %s is %x, %v, want %x", c.want, y, e, x)
		}
		if id := txn.Id(want); hex.EncodeToString(id[:]) != c.id {
			t.Errorf("Id of %s is %x, want %s", c.want, id, c.id)
		}
	}
}

// P14.1: the id of bytes, whether or not they are an encoding, of lengths around those of the blocks of a hash.
func TestId(t *testing.T) {
	for n := range 700 {
		b := filled(n, n)
		first := sha256.Sum256(b)
		if got := txn.Id(b); got != sha256.Sum256(first[:]) {
			t.Errorf("Id of %x is %x, want %x", b, got, sha256.Sum256(first[:]))
		}
		if !bytes.Equal(b, filled(n, n)) {
			t.Errorf("Id changed %x to %x", filled(n, n), b)
		}
	}
	if txn.Id(nil) != txn.Id([]byte{}) {
		t.Error("the Id of nil is not that of no bytes")
	}
}

// P14.1, P14.2: transactions of all shapes, with salts and values at all edges.
func TestBytes(t *testing.T) {
	for _, x := range valid() {
		for _, n := range numbers() {
			x.Salt = n
			if e := wantBytes(t, x); e != api.OK {
				t.Fatalf("Bytes of %x is %v", x, e)
			}
			for i := range x.Outs {
				y := copied(x)
				y.Outs[i].Value = n
				wantBytes(t, y)
			}
		}
	}
}

// P14.1, P14.2: as many outputs as may be and one more, and items of as many bytes as may be and one more, wherever they are.
func TestBytesMost(t *testing.T) {
	for n, want := range map[int]api.Errno{7: api.OK, 8: api.OK, 9: api.ErrBig, 10: api.ErrBig, 252: api.ErrBig, 253: api.ErrBig, 256: api.ErrBig, 264: api.ErrBig, 65536: api.ErrBig} {
		if e := wantBytes(t, paying(1, make([]int, n)...)); e != want {
			t.Errorf("the error of %d outputs is %v, want %v", n, e, want)
		}
	}
	for n, want := range map[int]api.Errno{63: api.OK, 64: api.OK, 65: api.ErrBig, 66: api.ErrBig, 252: api.ErrBig, 253: api.ErrBig, 256: api.ErrBig, 300: api.ErrBig, 65536: api.ErrBig, 65600: api.ErrBig} {
		for count := range maxOuts {
			for at := range count + 1 {
				lengths := make([]int, count+1)
				lengths[at] = n
				if e := wantBytes(t, paying(2, lengths...)); e != want {
					t.Errorf("the error of an item of %d bytes in output %d of %d is %v, want %v", n, at, count+1, e, want)
				}
			}
		}
	}
	if e := wantBytes(t, paying(3, slices.Repeat([]int{65}, 9)...)); e != api.ErrBig {
		t.Errorf("the error of too many outputs, each too great, is %v", e)
	}
}

// P14.1: all ways in which an encoding can have 64 bytes, and those with one more and one less, made and read.
func TestBarred(t *testing.T) {
	for _, lengths := range [][]int{{45}, {36, 0}, {0, 36}, {18, 18}, {1, 35}, {27, 0, 0}, {9, 9, 9}, {0, 0, 0, 18}, {4, 5, 4, 5}, {9, 0, 0, 0, 0}, {1, 2, 3, 2, 1}, {0, 0, 0, 0, 0, 0}} {
		x := paying(4, lengths...)
		if b, e := x.Bytes(); e != api.ErrForm || len(b) != 0 {
			t.Errorf("Bytes of items of %d bytes is %x, %v", lengths, b, e)
		}
		s := "\x01" + little(4, 8) + little(uint64(len(x.Outs)), 1)
		for _, out := range x.Outs {
			s += little(out.Value, 8) + little(uint64(len(out.Item)), 1) + string(out.Item)
		}
		if e := wantParse(t, []byte(s)); e != api.ErrForm || len(s) != barred {
			t.Errorf("Parse of %d bytes, %x, is %v", len(s), s, e)
		}
		for i := range lengths {
			for _, by := range []int{-1, 1} {
				near := slices.Clone(lengths)
				near[i] += by
				if near[i] < 0 {
					continue
				}
				if e := wantBytes(t, paying(4, near...)); e != api.OK {
					t.Errorf("Bytes of items of %d bytes is %v", near, e)
				}
			}
		}
	}
}

// P14.1: whatever is in 64 bytes is an ErrForm, and what it is elsewhere in 63 and in 65.
func TestParseBarred(t *testing.T) {
	for _, c := range []struct {
		start string
		other api.Errno // of other lengths
	}{
		{"", api.ErrForm},                                                      // a first byte 0
		{"\x02", api.ErrForm},                                                  // another first byte
		{"\x01", api.ErrForm},                                                  // no output, and more behind it
		{"\x01" + little(6, 8) + "\x09", api.ErrBig},                           // too many outputs
		{"\x01" + little(6, 8) + "\xfd\x01\x00", api.ErrForm},                  // a count in too many bytes
		{"\x01" + little(6, 8) + "\x01" + little(7, 8) + "\x41", api.ErrBig},   // too great an item
		{"\x01" + little(6, 8) + "\x01" + little(7, 8) + "\x40", api.ErrShort}, // one that is cut off
		{"\x01" + little(6, 8) + "\x08", api.ErrShort},                         // outputs that are cut off
	} {
		for n := 60; n < 70; n++ {
			b := make([]byte, n)
			copy(b, c.start)
			want := c.other
			if n == barred {
				want = api.ErrForm
			}
			if e := wantParse(t, b); e != want {
				t.Errorf("Parse of %x (%d bytes) is %v, want %v", b, n, e, want)
			}
		}
	}
}

// P14.1: encodings that are cut off anywhere.
func TestParseCut(t *testing.T) {
	for _, x := range valid() {
		b, _ := x.Bytes()
		for n := range b {
			want := api.ErrShort
			if n == barred {
				want = api.ErrForm
			}
			if e := wantParse(t, b[:n:n]); e != want {
				t.Fatalf("Parse of the first %d bytes of %x is %v, want %v", n, b, e, want)
			}
			if e := wantParse(t, b[:n]); e != want { // the rest of it being behind the list
				t.Fatalf("Parse of the first %d bytes of %x is %v, want %v", n, b, e, want)
			}
		}
	}
	if e := wantParse(t, nil); e != api.ErrShort {
		t.Errorf("Parse of nil is %v", e)
	}
}

// P14.1: encodings with more behind them: any byte, many, and the encoding once more.
func TestParseMore(t *testing.T) {
	for _, x := range valid() {
		b, _ := x.Bytes()
		for _, more := range [][]byte{{0}, {1}, {255}, make([]byte, 2), make([]byte, 54), make([]byte, 1000), b} {
			if e := wantParse(t, slices.Concat(b, more)); e != api.ErrForm {
				t.Fatalf("Parse of %x and %x behind it is %v", b, more, e)
			}
		}
	}
	if e := wantParse(t, append([]byte{1}, make([]byte, 1<<20)...)); e != api.ErrForm {
		t.Errorf("Parse of many bytes is %v", e)
	}
}

// P14.1: all first bytes, alone, with a rest that is cut off, and with all of it.
func TestParseFirst(t *testing.T) {
	for _, x := range valid() {
		b, _ := x.Bytes()
		for first := range 256 {
			for _, n := range []int{1, 2, 9, 10, len(b)} {
				c := slices.Clone(b[:n])
				c[0] = byte(first)
				want := api.ErrForm
				if first == 1 && n == len(b) {
					want = api.OK
				} else if first == 1 {
					want = api.ErrShort
				}
				if e := wantParse(t, c); e != want {
					t.Fatalf("Parse of %x is %v, want %v", c, e, want)
				}
			}
		}
	}
}

// P14.1, P14.2: counts of outputs and of the bytes of an item, as short as can be and not, alone, cut off, and with what they count behind them.
func TestParseCounts(t *testing.T) {
	head := "\x01" + little(8, 8)
	one := head + "\x01" + little(9, 8)
	for _, c := range []struct {
		count string
		outs  api.Errno // of a count of outputs, of which there are none
		item  api.Errno // of a count of the bytes of an item, of which there are none
	}{
		{"", api.ErrShort, api.ErrShort},
		{"\x00", api.OK, api.OK},
		{"\x01", api.ErrShort, api.ErrShort},
		{"\x08", api.ErrShort, api.ErrShort},
		{"\x09", api.ErrBig, api.ErrShort},
		{"\x40", api.ErrBig, api.ErrShort},
		{"\x41", api.ErrBig, api.ErrBig},
		{"\xfc", api.ErrBig, api.ErrBig},
		{"\xfd", api.ErrShort, api.ErrShort},
		{"\xfd\x00", api.ErrShort, api.ErrShort},
		{"\xfd\x00\x00", api.ErrForm, api.ErrForm},
		{"\xfd\x08\x00", api.ErrForm, api.ErrForm},
		{"\xfd\x41\x00", api.ErrForm, api.ErrForm}, // goes ahead of being too great
		{"\xfd\xfc\x00", api.ErrForm, api.ErrForm},
		{"\xfd\xfd\x00", api.ErrBig, api.ErrBig},
		{"\xfd\xff\xff", api.ErrBig, api.ErrBig},
		{"\xfe\x01\x00\x00", api.ErrShort, api.ErrShort},
		{"\xfe\x01\x00\x00\x00", api.ErrForm, api.ErrForm},
		{"\xfe\xff\xff\x00\x00", api.ErrForm, api.ErrForm},
		{"\xfe\x00\x00\x01\x00", api.ErrBig, api.ErrBig},
		{"\xff\x01\x00\x00\x00\x00\x00\x00", api.ErrShort, api.ErrShort},
		{"\xff\x01\x00\x00\x00\x00\x00\x00\x00", api.ErrForm, api.ErrForm},
		{"\xff\xff\xff\xff\xff\x00\x00\x00\x00", api.ErrForm, api.ErrForm},
		{"\xff\x00\x00\x00\x00\x01\x00\x00\x00", api.ErrBig, api.ErrBig},
		{"\xff\x00\x00\x00\x00\x00\x00\x00\x80", api.ErrBig, api.ErrBig},
		{"\xff\xff\xff\xff\xff\xff\xff\xff\xff", api.ErrBig, api.ErrBig},
	} {
		if e := wantParse(t, []byte(head+c.count)); e != c.outs {
			t.Errorf("Parse with the count of outputs %x is %v, want %v", c.count, e, c.outs)
		}
		if e := wantParse(t, []byte(one+c.count)); e != c.item {
			t.Errorf("Parse with the count of bytes %x is %v, want %v", c.count, e, c.item)
		}
		for n := range 80 {
			wantParse(t, []byte(head+c.count+strings.Repeat("\x00", n)))
			wantParse(t, []byte(one+c.count+strings.Repeat("\x00", n)))
		}
	}
}

// P14.1: of several faults at once, the first element that has one tells its error.
func TestParseOrder(t *testing.T) {
	head := "\x01" + little(10, 8)
	good := little(11, 8) + "\x02hi"
	for _, c := range []struct {
		name, b string
		want    api.Errno
	}{
		{"another first byte and no salt", "\x00", api.ErrForm},
		{"another first byte and a salt that is cut off", "\x02\x00\x00", api.ErrForm},
		{"another first byte and too many outputs", "\x00" + little(10, 8) + "\x09", api.ErrForm},
		{"a salt that is cut off, whose bytes could be counts", "\x01\xff\xff\xff\xff\xff\xff\xff", api.ErrShort},
		{"too many outputs and none there", head + "\x09", api.ErrBig},
		{"too many outputs, all there", head + "\x09" + strings.Repeat(good, 9), api.ErrBig},
		{"too many outputs and more behind them", head + "\x0a" + strings.Repeat(good, 11), api.ErrBig},
		{"a long count of outputs, too many", head + "\xfd\x09\x00", api.ErrForm},
		{"too many outputs, the first too great", head + "\x09" + little(1, 8) + "\x41", api.ErrBig},
		{"too great an item ahead of one of a long count", head + "\x02" + little(1, 8) + "\x41" + strings.Repeat("x", 65) + little(1, 8) + "\xfd\x01\x00x", api.ErrBig},
		{"an item of a long count ahead of one that is too great", head + "\x02" + little(1, 8) + "\xfd\x01\x00x" + little(1, 8) + "\x41" + strings.Repeat("x", 65), api.ErrForm},
		{"too great an item that is cut off", head + "\x01" + little(1, 8) + "\x41" + strings.Repeat("x", 9), api.ErrBig},
		{"a good output, then a value that is cut off", head + "\x02" + good + "\xff\xff", api.ErrShort},
		{"a good output, then too great an item", head + "\x02" + good + little(1, 8) + "\x42", api.ErrBig},
		{"a good output, then a long count", head + "\x02" + good + little(1, 8) + "\xfe\x01\x00\x00\x00", api.ErrForm},
		{"an item that is cut off, which would hold more behind it", head + "\x01" + little(1, 8) + "\x0fabc", api.ErrShort},
		{"fewer outputs than there are", head + "\x01" + good + good, api.ErrForm},
		{"fewer bytes of an item than there are", head + "\x01" + little(1, 8) + "\x01hi", api.ErrForm},
	} {
		if e := wantParse(t, []byte(c.b)); e != c.want {
			t.Errorf("Parse of %s, %x, is %v, want %v", c.name, c.b, e, c.want)
		}
	}
}

// P14.1, P14.2: encodings with any one byte changed to any other one, or left out, or put in.
func TestParseChanged(t *testing.T) {
	ends := map[api.Errno]int{}
	for _, x := range []txn.Tx{paying(0), paying(5, 0), paying(6, 3), paying(7, 44), paying(7, 46), paying(8, 1, 0, 2), paying(9, 64, 2), paying(1, 0, 0, 0, 0, 0, 0, 0, 0)} {
		b, _ := x.Bytes()
		for i := range b {
			for n := range 256 {
				c := slices.Clone(b)
				c[i] = byte(n)
				ends[wantParse(t, c)]++
				ends[wantParse(t, slices.Insert(c, i, byte(n)))]++
			}
			ends[wantParse(t, slices.Delete(slices.Clone(b), i, i+1))]++
		}
	}
	wantAll(t, ends, api.OK, api.ErrShort, api.ErrForm, api.ErrBig)
}

// P14.1, P14.2: scattered transactions, of which some are not valid, and bytes that are nearly encodings.
func TestScattered(t *testing.T) {
	made, read := map[api.Errno]int{}, map[api.Errno]int{}
	for seed := range uint64(3000) {
		l := scattered(40, seed)
		var lengths []int
		for i := range l[0] % 10 {
			most := []uint64{4, 20, 66}[l[1]%3]
			lengths = append(lengths, int(l[2+i]%most))
		}
		x := paying(l[20], lengths...)
		for i := range x.Outs {
			x.Outs[i].Value = l[21+i]
		}
		made[wantBytes(t, x)]++
		if b, e := x.Bytes(); e == api.OK {
			for _, n := range l[32:36] {
				b[n%uint64(len(b))] = byte(n >> 32 % 70)
				read[wantParse(t, b)]++
			}
		}
	}
	wantAll(t, made, api.OK, api.ErrBig, api.ErrForm)
	wantAll(t, read, api.OK, api.ErrBig, api.ErrForm, api.ErrShort)
}

// sumOf is what Sum must answer, as the chapter says it.
func sumOf(x txn.Tx, item []byte) (uint64, bool) {
	sum := new(big.Int)
	for _, out := range x.Outs {
		if string(out.Item) == string(item) {
			sum.Add(sum, new(big.Int).SetUint64(out.Value))
		}
	}
	if !sum.IsUint64() {
		return 0, false
	}
	return sum.Uint64(), true
}

// wantPays holds Pays and Sum of an item against the chapter's words, and returns whether the sum fits.
func wantPays(t *testing.T, x txn.Tx, item []byte) bool {
	t.Helper()
	pays := slices.ContainsFunc(x.Outs, func(out txn.Out) bool { return string(out.Item) == string(item) })
	if got := x.Pays(item); got != pays {
		t.Fatalf("Pays of %x and %x is %v, want %v", x, item, got, pays)
	}
	want, fits := sumOf(x, item)
	if got, ok := x.Sum(item); got != want || ok != fits {
		t.Fatalf("Sum of %x and %x is %d, %v, want %d, %v", x, item, got, ok, want, fits)
	}
	return fits
}

// P14.1: items to which a transaction pays, and those to which it does not but which are like one.
func TestPays(t *testing.T) {
	items := []string{"", "a", "ab", "abc", "b", "A", "\x00", "a\x00", "\x00a", "\xff", "\xc3\xa9", "\xe9", strings.Repeat("x", 63), strings.Repeat("x", 64), strings.Repeat("x", 63) + "y", strings.Repeat("x", 65)}
	for i, in := range items {
		for j, other := range items {
			x := txn.Tx{Salt: 1, Outs: []txn.Out{{Value: 2, Item: []byte(in)}, {Value: 3, Item: []byte(other)}}}
			one := txn.Tx{Outs: x.Outs[:1]}
			if !x.Pays([]byte(in)) || !x.Pays([]byte(other)) {
				t.Errorf("%x does not pay to %q and %q", x, in, other)
			}
			if got := one.Pays([]byte(other)); got != (i == j) {
				t.Errorf("whether %x pays to %q is %v", one, other, got)
			}
			for _, item := range items {
				wantPays(t, x, []byte(item))
			}
		}
	}
	for _, x := range []txn.Tx{{}, {Salt: 1}, {Outs: []txn.Out{}}} {
		for _, item := range [][]byte{nil, {}, {0}} {
			if x.Pays(item) {
				t.Errorf("%x pays to %x", x, item)
			}
			if sum, ok := x.Sum(item); sum != 0 || !ok {
				t.Errorf("Sum of %x and %x is %d, %v", x, item, sum, ok)
			}
		}
	}
}

// P14.1: a nil item and an empty one are the same.
func TestPaysEmpty(t *testing.T) {
	for _, in := range [][]byte{nil, {}, make([]byte, 0, 4)} {
		x := txn.Tx{Outs: []txn.Out{{Value: 6, Item: in}}}
		for _, item := range [][]byte{nil, {}, make([]byte, 0, 4)} {
			if sum, ok := x.Sum(item); !x.Pays(item) || sum != 6 || !ok {
				t.Errorf("of %#v and %#v, Pays is %v and Sum is %d, %v", x, item, x.Pays(item), sum, ok)
			}
		}
	}
}

// P14.1: sums that just fit and that do not, with values of other items between them.
func TestSum(t *testing.T) {
	const most = math.MaxUint64
	for _, c := range []struct {
		values []uint64
		want   uint64
		fits   bool
	}{
		{nil, 0, true},
		{[]uint64{0}, 0, true},
		{[]uint64{most}, most, true},
		{[]uint64{most, 0}, most, true},
		{[]uint64{0, most, 0, 0}, most, true},
		{[]uint64{most - 1, 1}, most, true},
		{[]uint64{1, most - 1}, most, true},
		{[]uint64{most, 1}, 0, false},
		{[]uint64{1, most}, 0, false},
		{[]uint64{1, most, 0}, 0, false},
		{[]uint64{most, most}, 0, false},
		{[]uint64{most, most, 2}, 0, false},    // it would be 0 once more
		{[]uint64{most, 1, most}, 0, false},    // it would fit once more
		{[]uint64{1 << 63, 1 << 63}, 0, false}, // it would be 0
		{[]uint64{1 << 63, 1<<63 - 1}, most, true},
		{[]uint64{1<<63 - 1, 1<<63 - 1, 1}, most, true},
		{[]uint64{1<<63 - 1, 1<<63 - 1, 2}, 0, false},
		{[]uint64{1 << 62, 1 << 62, 1 << 62, 1 << 62}, 0, false},
		{[]uint64{1 << 61, 1 << 61, 1 << 61, 1 << 61, 1 << 61, 1 << 61, 1 << 61, 1<<61 - 1}, most, true},
		{[]uint64{1 << 61, 1 << 61, 1 << 61, 1 << 61, 1 << 61, 1 << 61, 1 << 61, 1 << 61}, 0, false},
		{[]uint64{1, 2, 4, 8, 16, 32, 64, 128}, 255, true},
	} {
		for _, item := range []string{"", "in", strings.Repeat("in", 32)} {
			var alone, among txn.Tx
			for _, value := range c.values {
				out := txn.Out{Value: value, Item: []byte(item)}
				alone.Outs = append(alone.Outs, out)
				among.Outs = append(among.Outs, txn.Out{Value: most, Item: []byte("out")}, out, txn.Out{Value: 1, Item: []byte("in-")})
			}
			for _, x := range []txn.Tx{alone, among} {
				if got, ok := x.Sum([]byte(item)); got != c.want || ok != c.fits {
					t.Errorf("Sum of the values %d is %d, %v, want %d, %v", c.values, got, ok, c.want, c.fits)
				}
				wantPays(t, x, []byte(item))
				wantPays(t, x, []byte("out"))
				wantPays(t, x, []byte("none"))
			}
		}
	}
}

// P14.1: Pays and Sum of scattered transactions, valid or not, with few different items.
func TestPaysScattered(t *testing.T) {
	fits := map[bool]int{}
	items := [][]byte{nil, {1}, {1, 2}, filled(64, 1), filled(65, 1), filled(300, 2)}
	for seed := range uint64(2000) {
		l := scattered(60, seed)
		x := txn.Tx{Salt: l[0]}
		for i := range l[1] % 25 {
			x.Outs = append(x.Outs, txn.Out{Value: l[2+i] >> (l[58] % 8), Item: items[l[30+i]%uint64(len(items))]})
		}
		for _, item := range items {
			fits[wantPays(t, x, item)]++
		}
	}
	if fits[true] < 100 || fits[false] < 100 {
		t.Errorf("how many sums fit and how many don't: %v", fits)
	}
}

// P14.1, P14.2: no call changes what it was given.
func TestUnchanged(t *testing.T) {
	for _, x := range append(valid(), paying(1, make([]int, 9)...), paying(1, 65), paying(1, 45)) {
		was := copied(x)
		b, e := x.Bytes()
		x.Pays(filled(3, 3))
		x.Sum(filled(3, 3))
		if !same(x, was) {
			t.Fatalf("%x was changed to %x", was, x)
		}
		if e != api.OK {
			continue
		}
		c := slices.Clone(b)
		txn.Parse(c)
		txn.Id(c)
		if !bytes.Equal(b, c) {
			t.Fatalf("%x was changed to %x", b, c)
		}
	}
}

// smear changes all bytes of a list, up to its capacity.
func smear(b []byte) {
	b = b[:cap(b)]
	for i := range b {
		b[i] ^= 0xa5
	}
}

// P14.1: what Bytes answered keeps no memory of the transaction, nor of another answer.
func TestBytesMemory(t *testing.T) {
	for _, x := range valid() {
		y := copied(x)
		b, _ := y.Bytes()
		other, _ := y.Bytes()
		want := slices.Clone(b)
		for i := range y.Outs {
			smear(y.Outs[i].Item)
			y.Outs[i] = txn.Out{}
		}
		smear(other)
		if !bytes.Equal(b, want) {
			t.Fatalf("Bytes is now %x, was %x", b, want)
		}
		y = copied(x)
		b, _ = y.Bytes()
		smear(b)
		if !same(x, y) {
			t.Fatalf("the transaction is now %x, was %x", y, x)
		}
	}
}

// P14.1: what Parse answered keeps no memory of the bytes, nor of another answer, and its items keep none of each other.
func TestParseMemory(t *testing.T) {
	for _, x := range valid() {
		b, _ := x.Bytes()
		c := slices.Clone(b)
		y, _ := txn.Parse(c)
		other, _ := txn.Parse(c)
		smear(c)
		for i := range other.Outs {
			smear(other.Outs[i].Item)
			other.Outs[i].Value++
		}
		if !same(x, y) {
			t.Fatalf("the transaction is now %x, was %x", y, x)
		}
		for i := range y.Outs {
			y, _ := txn.Parse(b)
			smear(y.Outs[i].Item)
			y.Outs[i].Item = bytes.Clone(x.Outs[i].Item)
			if again, _ := x.Bytes(); !same(x, y) || !bytes.Equal(b, again) {
				t.Fatalf("the transaction is now %x, was %x", y, x)
			}
		}
	}
}

// P14.2: different transactions have different encodings, and different ids.
func TestDifferent(t *testing.T) {
	seen := map[string]string{}
	keep := func(x txn.Tx) {
		b, e := x.Bytes()
		if e != api.OK {
			return
		}
		name := fmt.Sprintf("%x", x)
		for _, s := range []string{string(b), fmt.Sprint(txn.Id(b))} {
			if was, ok := seen[s]; ok && was != name {
				t.Fatalf("%s and %s have the same encoding or id", was, name)
			}
			seen[s] = name
		}
	}
	for salt := range uint64(3) {
		for a := range uint64(3) {
			for _, n := range []int{0, 1, 2, 9} {
				for _, m := range []int{0, 1, 2, 9} {
					first, second := txn.Out{Value: a, Item: filled(n, 0)}, txn.Out{Value: 1, Item: filled(m, 1)}
					keep(txn.Tx{Salt: salt})
					keep(txn.Tx{Salt: salt, Outs: []txn.Out{first}})
					keep(txn.Tx{Salt: salt, Outs: []txn.Out{first, second}})
					keep(txn.Tx{Salt: salt, Outs: []txn.Out{second, first}})
					keep(txn.Tx{Salt: salt, Outs: []txn.Out{first, second, first}})
				}
			}
		}
	}
}

// FuzzParse holds Parse of any bytes against the chapter's words.
func FuzzParse(f *testing.F) {
	for _, x := range valid() {
		b, _ := x.Bytes()
		f.Add(b)
	}
	f.Add([]byte("\x01\x00\x00\x00\x00\x00\x00\x00\x00\xfd\x01\x00"))
	f.Add(make([]byte, barred))
	f.Fuzz(func(t *testing.T, b []byte) {
		wantParse(t, b)
	})
}
