package gcs_test

import (
	"bytes"
	"crypto/sha256"
	"encoding/hex"
	"fmt"
	"math"
	"math/big"
	"slices"
	"strings"
	"testing"

	"masthead/api"
	"masthead/gcs"
	"masthead/sip"
)

const (
	// maxItems is how many different items a filter has at the most.
	maxItems = 1000
	// maxRun is how many bits 1 a code has ahead of its bit 0 at the most.
	maxRun = 65536
	// width is how many bits a code has behind its bit 0.
	width = 19
	// each is how many numbers there are for each item.
	each = 784931
)

// keys differ in one of their two integers, in both and in their order.
func keys() [][2]uint64 {
	return [][2]uint64{{}, {0, 1}, {1, 0}, {1 << 63, 0}, {0, 1 << 63}, {math.MaxUint64, math.MaxUint64}, {0x0706050403020100, 0x0f0e0d0c0b0a0908}}
}

// scattered are n integers with bits in all places, other ones for each seed.
func scattered(n int, seed uint64) []uint64 {
	l := make([]uint64, n)
	x := seed*0x9e3779b97f4a7c15 + 1
	for i := range l {
		x ^= x << 13
		x ^= x >> 7
		x ^= x << 17
		l[i] = x * 0x2545f4914f6cdd1d
	}
	return l
}

// named are n different items of several lengths, other ones for each name; none of them is empty.
func named(name string, n int) [][]byte {
	l := make([][]byte, n)
	for i := range l {
		l[i] = fmt.Appendf(nil, "%s %d%s", name, i, strings.Repeat("~", i%20))
	}
	return l
}

// texts are items out of texts.
func texts(l ...string) [][]byte {
	items := make([][]byte, len(l))
	for i, s := range l {
		items[i] = []byte(s)
	}
	return items
}

// number is the number of an item in a filter of n items, as the chapter and that of layer 3 say it.
func number(key [2]uint64, item []byte, n int) uint64 {
	x := new(big.Int).SetUint64(sip.Hash(key, item))
	x.Mul(x, big.NewInt(int64(n)*each))
	return x.Rsh(x, 64).Uint64()
}

// numbersOf are the numbers of a list of items, sorted, as the chapter says it; not OK if there are too many.
func numbersOf(key [2]uint64, items [][]byte) ([]uint64, bool) {
	different := map[string]bool{}
	for _, item := range items {
		different[string(item)] = true
	}
	var l []uint64
	for item := range different {
		l = append(l, number(key, []byte(item), len(different)))
	}
	slices.Sort(l)
	return l, len(l) <= maxItems
}

// count is the bytes of a count of as few bytes as possible, up to 65535.
func count(n int) []byte {
	if n < 253 {
		return []byte{byte(n)}
	}
	return []byte{253, byte(n), byte(n >> 8)}
}

// codes are the digits 0 and 1 of the codes of steps.
func codes(steps ...uint64) string {
	var s strings.Builder
	for _, n := range steps {
		s.WriteString(strings.Repeat("1", int(n>>width)))
		fmt.Fprintf(&s, "0%0*b", width, n%(1<<width))
	}
	return s.String()
}

// packed is the bytes of digits 0 and 1, padded.
func packed(digits string) []byte {
	b := make([]byte, (len(digits)+7)/8)
	for i := range len(digits) {
		b[i/8] |= (digits[i] - '0') << (7 - i%8)
	}
	return b
}

// spelled is the digits 0 and 1 of bytes.
func spelled(b []byte) string {
	var s strings.Builder
	for _, x := range b {
		fmt.Fprintf(&s, "%08b", x)
	}
	return s.String()
}

// stepped is bytes that claim n numbers, with the codes of these steps.
func stepped(n int, steps ...uint64) []byte {
	return append(count(n), packed(codes(steps...))...)
}

// filterOf is the bytes of sorted numbers as the chapter says it.
func filterOf(numbers []uint64) []byte {
	steps := slices.Clone(numbers)
	for i := range steps[min(1, len(steps)):] {
		steps[i+1] = numbers[i+1] - numbers[i]
	}
	return stepped(len(numbers), steps...)
}

// counted is the count with which b begins and what is behind it, as the chapter of layer 6 says it.
func counted(b []byte) (int, []byte, api.Errno) {
	if len(b) == 0 {
		return 0, nil, api.ErrShort
	}
	more := map[byte]int{253: 2, 254: 4, 255: 8}[b[0]]
	if len(b) < 1+more {
		return 0, nil, api.ErrShort
	}
	if more == 0 {
		return int(b[0]), b[1:], api.OK
	}
	n := uint64(0)
	for i := range more {
		n |= uint64(b[1+i]) << (8 * i)
	}
	least := map[byte]uint64{253: 253, 254: 1 << 16, 255: 1 << 32}[b[0]]
	if n < least {
		return 0, nil, api.ErrForm
	}
	if n > maxItems {
		return 0, nil, api.ErrBig
	}
	return int(n), b[1+more:], api.OK
}

// valuesOf is what Values must answer, as the chapter says it.
func valuesOf(b []byte) ([]uint64, api.Errno) {
	n, rest, e := counted(b)
	if e != api.OK {
		return nil, e
	}
	digits := spelled(rest)
	var l []uint64
	sum := uint64(0)
	for range n {
		behind := strings.TrimLeft(digits, "1")
		ones := len(digits) - len(behind)
		if ones > maxRun {
			return nil, api.ErrBig
		}
		if len(behind) < 1+width {
			return nil, api.ErrShort
		}
		low := uint64(0)
		for _, digit := range behind[1 : 1+width] {
			low = 2*low + uint64(digit-'0')
		}
		sum += uint64(ones)*(1<<width) + low
		if sum >= uint64(n)*each {
			return nil, api.ErrRange
		}
		l = append(l, sum)
		digits = behind[1+width:]
	}
	if len(digits) >= 8 || strings.Contains(digits, "1") || n == 0 && len(rest) > 0 {
		return nil, api.ErrForm
	}
	return l, api.OK
}

// short is bytes as a fault tells them.
func short(b []byte) string {
	if len(b) > 50 {
		return fmt.Sprintf("%x.. (%d bytes)", b[:50], len(b))
	}
	return fmt.Sprintf("%x", b)
}

// wantBuild holds one Build against the chapter's words, and returns the filter.
func wantBuild(t *testing.T, key [2]uint64, items [][]byte) []byte {
	t.Helper()
	var want []byte
	wantErr := api.ErrBig
	if numbers, ok := numbersOf(key, items); ok {
		want, wantErr = filterOf(numbers), api.OK
	}
	got, e := gcs.Build(key, items)
	if e != wantErr || !bytes.Equal(got, want) {
		t.Fatalf("Build of %d items with the key %x is %s, %v, want %s, %v", len(items), key, short(got), e, short(want), wantErr)
	}
	return got
}

// wantValues holds Values of b against the chapter's words, and against the only encoding of the values if there are any; it returns the error.
func wantValues(t *testing.T, b []byte) api.Errno {
	t.Helper()
	want, wantErr := valuesOf(b)
	got, e := gcs.Values(b)
	if e != wantErr || !slices.Equal(got, want) {
		t.Fatalf("Values of %s are %d, %v, want %d, %v", short(b), got, e, want, wantErr)
	}
	if e == api.OK && !bytes.Equal(filterOf(got), b) {
		t.Fatalf("Values of %s are %d, which are those of %s too", short(b), got, short(filterOf(got)))
	}
	return e
}

// wantMatches holds Match of each item, and Any of all, against the chapter's words, and returns how many match.
func wantMatches(t *testing.T, key [2]uint64, b []byte, items [][]byte) int {
	t.Helper()
	numbers, wantErr := valuesOf(b)
	var want []int
	for i, item := range items {
		in := slices.Contains(numbers, number(key, item, len(numbers)))
		if got, e := gcs.Match(key, b, item); got != in || e != wantErr {
			t.Fatalf("Match of %s and item %d, %q, is %v, %v, want %v, %v", short(b), i, item, got, e, in, wantErr)
		}
		if in {
			want = append(want, i)
		}
	}
	if got, e := gcs.Any(key, b, items); !slices.Equal(got, want) || e != wantErr {
		t.Fatalf("Any of %s is %d, %v, want %d, %v", short(b), got, e, want, wantErr)
	}
	return len(want)
}

// wantAll finds each of the errors among those that were counted.
func wantAll(t *testing.T, ends map[api.Errno]int, l ...api.Errno) {
	t.Helper()
	for _, e := range l {
		if ends[e] == 0 {
			t.Errorf("no call ended with the error %v", e)
		}
	}
}

// P13.1: the examples of the chapter, and its two constants.
func TestExamples(t *testing.T) {
	if gcs.P != 19 || gcs.M != 784931 {
		t.Errorf("P is %d and M is %d", gcs.P, gcs.M)
	}
	for _, key := range keys() {
		for _, none := range [][][]byte{nil, {}, make([][]byte, 0, 5)} {
			if b, e := gcs.Build(key, none); e != api.OK || !bytes.Equal(b, []byte{0}) {
				t.Errorf("the filter of no items is %x, %v, want 00", b, e)
			}
		}
		for _, item := range append(named("one", 200), nil) {
			if b, e := gcs.Build(key, [][]byte{item}); e != api.OK || len(b) != 4 || b[0] != 1 {
				t.Errorf("the filter of %q alone is %x, %v, want 01 and 3 bytes more", item, b, e)
			}
		}
	}
}

// P13.1: filters of blocks that BIP 158 writes out, each of one item: their keys are the first two integers of a hash.
func TestKnownFilters(t *testing.T) {
	for _, c := range []struct{ hash, item, want string }{
		{
			"43497fd7f826957108f4a30fd9cec3aeba79972084e90ead01ea330900000000",
			"4104678afdb0fe5548271967f1a67130b7105cd6a828e03909a67962e0ea1f61deb649f6bc3f4cef38c4f35504e51ec112de5c384df7ba0b8d578a4c702b6bf11d5fac",
			"019dfca8",
		},
		{
			"20782a005255b657696ea057d5b98f34defcf75196f64f6eeac8026c00000000",
			"21038a7f6ef1c8ca0c588aa53fa860128077c9e6c11e6830f4d7ee4e763a56b7718fac",
			"0174a170",
		},
	} {
		hash, _ := hex.DecodeString(c.hash)
		item, _ := hex.DecodeString(c.item)
		key := sip.Key(api.Hash(hash))
		b, e := gcs.Build(key, [][]byte{item})
		if e != api.OK || hex.EncodeToString(b) != c.want {
			t.Errorf("the filter of %s with the hash %s is %x, %v, want %s", c.item, c.hash, b, e, c.want)
		}
		if ok, e := gcs.Match(key, b, item); !ok || e != api.OK {
			t.Errorf("Match of %s and %s is %v, %v", c.want, c.item, ok, e)
		}
	}
}

// P13.1: filters and their numbers that are written out here.
func TestWrittenOut(t *testing.T) {
	for _, c := range []struct {
		key     [2]uint64
		items   [][]byte
		want    string
		numbers []uint64
	}{
		{[2]uint64{7, 9}, texts("a"), "013a58f0", []uint64{238991}},
		{[2]uint64{7, 9}, texts("a", "bb", ""), "038db2409d3304d750", []uint64{636488, 716974, 756632}},
		{[2]uint64{7, 9}, texts("a", "bb", "", "a"), "038db2409d3304d750", []uint64{636488, 716974, 756632}}, // one of them twice
		{[2]uint64{}, texts(""), "0116e280", []uint64{93736}},
		{[2]uint64{math.MaxUint64, 1}, texts("alpha", "beta", "gamma", "delta"), "046cd7c4d3968b6d733baf00", []uint64{445820, 762130, 1380032, 1803806}},
		{[2]uint64{1, math.MaxUint64}, texts("alpha", "beta", "gamma", "delta"), "0457ae6136bdc578e0bbfe00", []uint64{359142, 438691, 1576923, 1769427}},
		{[2]uint64{7, 9}, texts("2224", "2705"), "024f62100000", []uint64{325153, 325153}}, // of the same number
	} {
		b, e := gcs.Build(c.key, c.items)
		if e != api.OK || hex.EncodeToString(b) != c.want {
			t.Errorf("the filter of %q is %x, %v, want %s", c.items, b, e, c.want)
		}
		want, _ := hex.DecodeString(c.want)
		if l, e := gcs.Values(want); e != api.OK || !slices.Equal(l, c.numbers) {
			t.Errorf("Values of %s are %d, %v, want %d", c.want, l, e, c.numbers)
		}
	}
}

// digits are the items of the integers below n.
func digits(n int) [][]byte {
	l := make([][]byte, n)
	for i := range l {
		l[i] = fmt.Append(nil, i)
	}
	return l
}

// P13.1: filters of many items, whose lengths and sums are written out here.
func TestManyWrittenOut(t *testing.T) {
	for _, c := range []struct {
		n, size int
		first   string
		sum     string
	}{
		{253, 669, "fdfd00", "5b6c27dc8658818f3b923fc682ffe175c0cf61e69dd529b0a3bd1b311bc1a01f"},
		{1000, 2634, "fde803", "887638d8cb21295007b0550d2a9462047840948bd5c9cf384332afa9b5636ef0"},
	} {
		b, e := gcs.Build([2]uint64{1, 2}, digits(c.n))
		if sum := sha256.Sum256(b); e != api.OK || len(b) != c.size || hex.EncodeToString(b[:3]) != c.first || hex.EncodeToString(sum[:]) != c.sum {
			t.Errorf("the filter of %d items is %s, %v, want %s.. (%d bytes) of the sum %s", c.n, short(b), e, c.first, c.size, c.sum)
		}
	}
}

// P13.1, P13.2, P13.4: lists of few items and of many, up to as many as may be, with all keys.
func TestBuild(t *testing.T) {
	for i, key := range keys() {
		for _, n := range []int{0, 1, 2, 3, 4, 5, 7, 8, 9, 16, 31, 100, 251, 252, 253, 254, 255, 256, 257, 511, 512, 999, 1000} {
			if n > 257 && i > 0 { // these take their time
				break
			}
			items := named("in", n)
			b := wantBuild(t, key, items)
			if e := wantValues(t, b); e != api.OK {
				t.Fatalf("Values of the filter of %d items is %v", n, e)
			}
			if got := wantMatches(t, key, b, items); got != n {
				t.Fatalf("%d items match the filter of %d", got, n)
			}
			wantMatches(t, key, b, named("out", 100))
			wantMatches(t, [2]uint64{key[1] + 1, key[0]}, b, items)
		}
	}
}

// alike are items of all lengths up to more than 16, and a longer one, which begin with each other or differ in one place: each is another one.
func alike() [][]byte {
	var l [][]byte
	for n := range 20 {
		l = append(l, make([]byte, n), append(make([]byte, n), 1), bytes.Repeat([]byte{255}, n+1))
	}
	for n := range 8 {
		l = append(l, append([]byte("item"), byte(n), 0), append([]byte("item"), 0, 0, byte(n)))
	}
	return append(l, bytes.Repeat([]byte("long"), 300), bytes.Repeat([]byte("long"), 301), []byte("\xff\xfe\x00\x80"), []byte("\ufffd"))
}

// P13.1, P13.2: items that are empty, long, of bytes that are no text, and alike.
func TestBuildAlike(t *testing.T) {
	for _, key := range keys() {
		items := alike()
		b := wantBuild(t, key, items)
		if got := wantMatches(t, key, b, items); got != len(items) {
			t.Errorf("%d items match, want %d", got, len(items))
		}
		if twice := wantBuild(t, key, slices.Concat(items, backwards(items))); !bytes.Equal(twice, b) {
			t.Errorf("the filter of each item twice is %x, want %x", twice, b)
		}
		for i := range items {
			wantMatches(t, key, wantBuild(t, key, items[i:i+1]), items)
		}
	}
}

// P13.1: as many different items as may be, and one more, with equal ones among them and with empty ones.
func TestBuildMost(t *testing.T) {
	key := [2]uint64{3, 4}
	full := named("in", maxItems)
	almost := full[:maxItems-1]
	empty := [][]byte{nil, {}, make([]byte, 0, 9)}
	for _, c := range []struct {
		name  string
		items [][]byte
		want  api.Errno
	}{
		{"1000", full, api.OK},
		{"1000 twice", slices.Concat(full, full), api.OK},
		{"1000 backwards, and once more", slices.Concat(backwards(full), full), api.OK},
		{"999 and empty ones", slices.Concat(almost, empty), api.OK},
		{"empty ones, 999 and empty ones", slices.Concat(empty, almost, empty), api.OK},
		{"one 5000 times", slices.Repeat(full[:1], 5000), api.OK},
		{"empty ones, 5000 times", slices.Repeat(empty, 5000), api.OK},
		{"1001", named("in", maxItems+1), api.ErrBig},
		{"1001 backwards", backwards(named("in", maxItems+1)), api.ErrBig},
		{"1000 and empty ones", slices.Concat(full, empty), api.ErrBig},
		{"an empty one and 1000", slices.Concat(empty[:1], full), api.ErrBig},
		{"1000 twice, and one more", slices.Concat(full, full, named("out", 1)), api.ErrBig},
		{"1001, and 1000 of them once more", slices.Concat(named("in", maxItems+1), full), api.ErrBig},
		{"5000", named("in", 5000), api.ErrBig},
	} {
		b, e := gcs.Build(key, c.items)
		if e != c.want || (e == api.OK) != (len(b) > 0) {
			t.Errorf("Build of %s is %s, %v, want %v", c.name, short(b), e, c.want)
		}
		wantBuild(t, key, c.items)
	}
}

// backwards is a list in the opposite order.
func backwards(l [][]byte) [][]byte {
	l = slices.Clone(l)
	slices.Reverse(l)
	return l
}

// P13.3: lists in other orders, with items that occur more than once.
func TestOrderAndRepeats(t *testing.T) {
	for _, key := range keys() {
		for _, n := range []int{1, 2, 3, 10, 60, 300} {
			items := slices.Concat(named("in", n), [][]byte{{}})
			want := wantBuild(t, key, items)
			for seed := range uint64(10) {
				l := slices.Clone(items)
				for i, x := range scattered(int(seed)*n/3, seed) {
					l = slices.Insert(l, i%len(l), items[x%uint64(len(items))], nil)
				}
				shuffle(l, seed)
				if got, e := gcs.Build(key, l); e != api.OK || !bytes.Equal(got, want) {
					t.Fatalf("the filter of %d items with equal ones in another order is %s, %v, want %s", len(l), short(got), e, short(want))
				}
			}
		}
	}
}

// shuffle puts a list into another order for each seed.
func shuffle(l [][]byte, seed uint64) {
	for i, x := range scattered(len(l), seed+77) {
		j := x % uint64(i+1)
		l[i], l[j] = l[j], l[i]
	}
}

// P13.3: all orders of four items, the ones of equal numbers among them.
func TestAllOrders(t *testing.T) {
	key := [2]uint64{7, 9}
	items := texts("2224", "2705", "", "x")
	want := wantBuild(t, key, items)
	for code := range 4 * 4 * 4 * 4 * 4 {
		l := make([][]byte, 5)
		used := [4]bool{}
		for i := range l {
			which := code >> (2 * i) & 3
			used[which] = true
			l[i] = items[which]
		}
		got := wantBuild(t, key, l)
		if used == [4]bool{true, true, true, true} && !bytes.Equal(got, want) {
			t.Errorf("the filter of %q is %x, want %x", l, got, want)
		}
	}
}

// P13.1: bytes, values and errors that are written out here.
func TestValuesWrittenOut(t *testing.T) {
	for _, c := range []struct {
		b    string
		want []uint64
		e    api.Errno
	}{
		{"00", nil, api.OK},
		{"01000000", []uint64{0}, api.OK},
		{"01000010", []uint64{1}, api.OK},
		{"017ffff0", []uint64{1<<19 - 1}, api.OK},
		{"01800000", []uint64{1 << 19}, api.OK},
		{"01800008", []uint64{1<<19 + 1}, api.OK},
		{"019fd110", []uint64{784930}, api.OK},
		{"019fd118", nil, api.ErrRange},
		{"01c00000", nil, api.ErrRange},
		{"020000000000", []uint64{0, 0}, api.OK},
		{"020000100000", []uint64{1, 1}, api.OK},
		{"020000000001", []uint64{0, 1}, api.OK},
		{"", nil, api.ErrShort}, // no count
		{"fd", nil, api.ErrShort},
		{"fdfd", nil, api.ErrShort},
		{"fefd0000", nil, api.ErrShort},
		{"fffd000000000000", nil, api.ErrShort},
		{"fd0000", nil, api.ErrForm}, // a longer count than need be
		{"fd0100000010", nil, api.ErrForm},
		{"fdfc00", nil, api.ErrForm},
		{"fefd000000", nil, api.ErrForm},
		{"ffe803000000000000", nil, api.ErrForm},
		{"fde903", nil, api.ErrBig}, // more than 1000
		{"fdffff", nil, api.ErrBig},
		{"fe00000100", nil, api.ErrBig},
		{"ffe803000001000000", nil, api.ErrBig},
		{"ffffffffffffffffff", nil, api.ErrBig},
		{"fde803", nil, api.ErrShort}, // 1000 and 253, but no number
		{"fdfd00", nil, api.ErrShort},
		{"01", nil, api.ErrShort},
		{"010000", nil, api.ErrShort}, // 16 bits
		{"018000", nil, api.ErrShort},
		{"01ffff", nil, api.ErrShort}, // no bit 0
		{"01fffe", nil, api.ErrShort}, // and one, but nothing behind
		{"0200001000", nil, api.ErrShort},
		{"0000", nil, api.ErrForm}, // bytes behind a count of 0
		{"0080", nil, api.ErrForm},
		{"0001000010", nil, api.ErrForm},
		{"01000001", nil, api.ErrForm}, // padding that is not all 0
		{"01000008", nil, api.ErrForm},
		{"0100000f", nil, api.ErrForm},
		{"01800004", nil, api.ErrForm},
		{"0100001000", nil, api.ErrForm}, // a byte more
		{"01000010ff", nil, api.ErrForm},
		{"02000010000000", nil, api.ErrForm},
		{"01c00001", nil, api.ErrRange}, // out of bounds, and wrong padding
		{"02fc00000000", nil, api.ErrRange},
		{"02fc000000", nil, api.ErrRange}, // out of bounds, and the second one is cut off
	} {
		b, _ := hex.DecodeString(c.b)
		if got, e := gcs.Values(b); e != c.e || !slices.Equal(got, c.want) {
			t.Errorf("Values of %s are %d, %v, want %d, %v", c.b, got, e, c.want, c.e)
		}
		wantValues(t, b)
		wantMatches(t, [2]uint64{1, 2}, b, texts("", "x"))
	}
}

// P13.1, P13.4: all bytes of a few shapes, hence numbers inside and out of bounds and any padding.
func TestValuesAll(t *testing.T) {
	ends := map[api.Errno]int{}
	for first := range 256 {
		for last := range 256 {
			for _, mid := range []byte{0x00, 0xfa, 0xff} {
				ends[wantValues(t, []byte{1, byte(first), mid, byte(last)})]++
			}
			ends[wantValues(t, []byte{2, byte(first), 0, 0xe8, 0, byte(last)})]++
			ends[wantValues(t, []byte{byte(first), byte(last)})]++
		}
	}
	for n := range 1 << 16 {
		ends[wantValues(t, []byte{253, byte(n), byte(n >> 8)})]++
	}
	wantAll(t, ends, api.OK, api.ErrShort, api.ErrForm, api.ErrBig, api.ErrRange)
}

// P13.1: filters cut off anywhere, and with more bytes behind them.
func TestCutOff(t *testing.T) {
	for _, n := range []int{0, 1, 2, 3, 8, 30, 252, 253} {
		b := wantBuild(t, [2]uint64{5, 6}, named("in", n))
		for size := range b {
			if e := wantValues(t, b[:size]); e != api.ErrShort {
				t.Errorf("Values of %d bytes of the filter of %d items is %v, want ErrShort", size, n, e)
			}
		}
		for _, more := range [][]byte{{0}, {1}, {0x80}, {0xff}, {0, 0, 0}, b, make([]byte, 100)} {
			if e := wantValues(t, slices.Concat(b, more)); e != api.ErrForm {
				t.Errorf("Values of the filter of %d items and %x is %v, want ErrForm", n, more, e)
			}
		}
	}
}

// P13.1, P13.4: filters with any one of their bits changed, or any one of their bytes.
func TestChanged(t *testing.T) {
	ends := map[api.Errno]int{}
	for _, n := range []int{0, 1, 2, 3, 7, 20, 253} {
		items := named("in", n)
		whole := wantBuild(t, [2]uint64{7, 8}, items)
		for i := range whole {
			for place := range 8 {
				b := bytes.Clone(whole)
				b[i] ^= 1 << place
				ends[wantValues(t, b)]++
			}
			for _, x := range []byte{0, 255} {
				b := bytes.Clone(whole)
				b[i] = x
				ends[wantValues(t, b)]++
				wantMatches(t, [2]uint64{7, 8}, b, items[:min(3, n)])
			}
		}
	}
	wantAll(t, ends, api.OK, api.ErrShort, api.ErrForm, api.ErrBig, api.ErrRange)
}

// P13.1: a number in each place of the list that is just below the bound, just not, and far above it.
func TestValuesBound(t *testing.T) {
	for _, n := range []int{1, 2, 3, 252, 253, 1000} {
		bound := uint64(n) * each
		for _, at := range []int{0, 1, n / 2, n - 1} {
			if at >= n {
				continue
			}
			for last, want := range map[uint64]api.Errno{
				bound - 1:                 api.OK,
				bound:                     api.ErrRange,
				bound + 1:                 api.ErrRange,
				maxRun<<width | 1<<19 - 1: api.ErrRange,
			} {
				steps := make([]uint64, n)
				steps[at] = last
				if e := wantValues(t, stepped(n, steps...)); e != want {
					t.Errorf("Values of %d numbers with one of %d at %d is %v, want %v", n, last, at, e, want)
				}
				if at == 0 {
					continue
				}
				steps[0], steps[at] = 5, last-5 // a sum, then
				if e := wantValues(t, stepped(n, steps...)); e != want {
					t.Errorf("Values of %d numbers with 5 and %d more at %d is %v, want %v", n, last-5, at, e, want)
				}
			}
		}
	}
}

// P13.1: as many bits 1 in a row as may be, and more, with a bit 0 behind them and without.
func TestValuesRun(t *testing.T) {
	for _, c := range []struct {
		ones   int
		behind string
		want   api.Errno
	}{
		{maxRun - 8, "", api.ErrShort},
		{maxRun, "", api.ErrShort}, // a bit 0 is lacking, but there are not too many bits 1
		{maxRun, "00000000", api.ErrShort},
		{maxRun, "0111111111111111", api.ErrShort},
		{maxRun, "000000000000000000000000", api.ErrRange},
		{maxRun, "011111111111111111111111", api.ErrRange},
		{maxRun + 1, "0000000", api.ErrBig},
		{maxRun + 1, "00000000000000000000000", api.ErrBig},
		{maxRun + 8, "", api.ErrBig}, // a bit 0 is lacking, too
		{2 * maxRun, "", api.ErrBig},
		{2 * maxRun, "000000000000000000000000", api.ErrBig},
	} {
		run := strings.Repeat("1", c.ones) + c.behind
		for n, before := range map[int]string{1: "", 3: codes(4, 0), 1000: codes(4, 5, 6, 7)} {
			b := append(count(n), packed(before+run)...)
			if e := wantValues(t, b); e != c.want {
				t.Errorf("Values of %d numbers, of which one has %d bits 1 with %q behind, are %v, want %v", n, c.ones, c.behind, e, c.want)
			}
		}
	}
}

// P13.1: of several faults the one of the first number counts, and one in the numbers counts more than the padding.
func TestFirstFault(t *testing.T) {
	far := codes(4 * each)
	long := strings.Repeat("1", maxRun+1)
	for _, c := range []struct {
		digits string
		want   api.Errno
	}{
		{codes(1, 2, 3, 4), api.OK},
		{codes(1, 2, 3, 4) + "1", api.ErrForm},
		{codes(1, 2, 3) + far + "1", api.ErrRange},
		{codes(1, 2) + far, api.ErrRange}, // the fourth is lacking
		{codes(1) + far + long, api.ErrRange},
		{far, api.ErrRange},
		{codes(1, 2) + long, api.ErrBig}, // the fourth is lacking
		{long, api.ErrBig},
		{codes(1) + long + codes(0) + far, api.ErrBig},
		{codes(1, 2), api.ErrShort},
	} {
		if e := wantValues(t, append([]byte{4}, packed(c.digits)...)); e != c.want {
			t.Errorf("Values of 4 numbers out of %d bits are %v, want %v", len(c.digits), e, c.want)
		}
	}
}

// P13.1: the error of Match and Any is that of Values, whatever is asked for.
func TestNoFilter(t *testing.T) {
	for text, want := range map[string]api.Errno{"": api.ErrShort, "01": api.ErrShort, "fd0100000010": api.ErrForm, "0000": api.ErrForm, "01000001": api.ErrForm, "fde903": api.ErrBig, "01c00000": api.ErrRange} {
		b, _ := hex.DecodeString(text)
		for _, items := range [][][]byte{nil, {}, {nil}, texts("", "a"), named("in", 1001)} {
			if l, e := gcs.Any([2]uint64{}, b, items); e != want || len(l) != 0 {
				t.Errorf("Any of %s is %d, %v, want %v", text, l, e, want)
			}
			wantMatches(t, [2]uint64{}, b, items)
		}
	}
	for _, e := range []api.Errno{wantValues(t, nil), wantValues(t, []byte{})} {
		if e != api.ErrShort {
			t.Errorf("Values of no bytes is %v", e)
		}
	}
}

// P13.1: nothing matches the filter of no items.
func TestMatchNone(t *testing.T) {
	for _, key := range keys() {
		if got := wantMatches(t, key, []byte{0}, append(alike(), named("x", 300)...)); got != 0 {
			t.Errorf("%d items match the filter of none", got)
		}
		if ok, e := gcs.Match(key, []byte{0}, nil); ok || e != api.OK {
			t.Errorf("Match of the filter of none and the empty item is %v, %v", ok, e)
		}
	}
}

// P13.1: matches that are written out here, the ones by chance too, and of items that no list would have.
func TestMatchWrittenOut(t *testing.T) {
	key := [2]uint64{7, 9}
	one, _ := hex.DecodeString("013a58f0")     // the filter of a
	two, _ := hex.DecodeString("024f62100000") // of 2224 and 2705, which have the same number
	for _, c := range []struct {
		b    []byte
		key  [2]uint64
		item string
		want bool
	}{
		{one, key, "a", true},
		{one, key, "227393", true}, // by chance
		{one, key, "b", false},
		{one, key, "", false},
		{one, [2]uint64{9, 7}, "a", false},
		{one, [2]uint64{7, 8}, "a", false},
		{two, key, "2224", true},
		{two, key, "2705", true},
		{two, key, "a", false},
	} {
		if ok, e := gcs.Match(c.key, c.b, []byte(c.item)); ok != c.want || e != api.OK {
			t.Errorf("Match of %x and %q is %v, %v, want %v", c.b, c.item, ok, e, c.want)
		}
	}
	if l, e := gcs.Any(key, one, texts("b", "a", "", "227393", "a", "x")); e != api.OK || !slices.Equal(l, []int{1, 3, 4}) {
		t.Errorf("Any is %d, %v, want 1, 3, 4", l, e)
	}
	if l, e := gcs.Any(key, two, texts("2705", "2224", "2705")); e != api.OK || !slices.Equal(l, []int{0, 1, 2}) {
		t.Errorf("Any is %d, %v, want 0, 1, 2", l, e)
	}
	for _, none := range [][][]byte{nil, {}, texts("x", "y")} {
		if l, e := gcs.Any(key, one, none); e != api.OK || len(l) != 0 {
			t.Errorf("Any of %q is %d, %v", none, l, e)
		}
	}
}

// P13.1: an item matches if its number is at any place of the list, and not if only the ones next to it are in it.
func TestMatchPlace(t *testing.T) {
	key := [2]uint64{11, 12}
	for _, n := range []int{1, 2, 3, 4, 5, 6, 7, 8, 9, 30} {
		for _, item := range named("x", 5) {
			own := number(key, item, n)
			for at := range n {
				numbers := make([]uint64, n)
				for i := range at + 1 {
					numbers[i] = own - uint64(at-i)
				}
				for i := range n - at {
					numbers[at+i] = own + uint64(i)
				}
				if got := wantMatches(t, key, filterOf(numbers), [][]byte{item}); got != 1 {
					t.Errorf("an item of the number %d does not match the filter of %d", own, numbers)
				}
				numbers[at]-- // then it is once more the one before, or missing
				if got := wantMatches(t, key, filterOf(numbers), [][]byte{item}); got != 0 {
					t.Errorf("an item of the number %d matches the filter of %d", own, numbers)
				}
			}
		}
	}
}

// P13.2: each item of a list, in the lists of many keys.
func TestEachMatches(t *testing.T) {
	for seed := range uint64(200) {
		l := scattered(4, seed)
		key := [2]uint64{l[0], l[1]}
		items := append(named("in", int(l[2]%60)), alike()[:l[3]%60]...)
		items = append(items, items[:len(items)/3]...)
		b, e := gcs.Build(key, items)
		if e != api.OK {
			t.Fatalf("Build of %d items is %v", len(items), e)
		}
		all, e := gcs.Any(key, b, items)
		if e != api.OK || len(all) != len(items) {
			t.Fatalf("%d of %d items match, %v", len(all), len(items), e)
		}
		for i, item := range items {
			if ok, e := gcs.Match(key, b, item); !ok || e != api.OK || all[i] != i {
				t.Fatalf("Match of item %d is %v, %v, and Any tells %d", i, ok, e, all[i])
			}
		}
	}
}

// P13.1: of other items about one in 784931 matches: of these none.
func TestOthersDoNotMatch(t *testing.T) {
	key := [2]uint64{21, 22}
	b := wantBuild(t, key, named("in", maxItems))
	if got := wantMatches(t, key, b, named("out", 3000)); got != 0 {
		t.Errorf("%d of 3000 other items match", got)
	}
}

// P13.1: no call changes its list, its items or the bytes beside them, nor keeps any of them.
func TestBuildMemory(t *testing.T) {
	key := [2]uint64{1, 2}
	fresh := func() [][]byte {
		return append(make([][]byte, 0, 9), []byte("zeta..")[:4], []byte("alpha"), nil, []byte("zeta"), []byte("mid"))
	}
	want := wantBuild(t, key, fresh())
	items := fresh()
	first, _ := gcs.Build(key, items)
	for i, item := range fresh() {
		if !bytes.Equal(items[i], item) || string(items[0][:6]) != "zeta.." || slices.ContainsFunc(items[5:9], func(b []byte) bool { return b != nil }) {
			t.Fatalf("Build made %q of the items", items[:9])
		}
	}
	second, _ := gcs.Build(key, items)
	for _, item := range items {
		clear(item)
	}
	clear(items)
	if !bytes.Equal(first, want) || !bytes.Equal(second, want) {
		t.Errorf("with the items the filters became %x and %x, want %x", first, second, want)
	}
	clear(first)
	if third, _ := gcs.Build(key, fresh()); !bytes.Equal(second, want) || !bytes.Equal(third, want) {
		t.Errorf("with one filter the others became %x and %x, want %x", second, third, want)
	}
}

// P13.1: no call changes a filter or the bytes beside it, nor keeps it, nor shares its answer.
func TestReadMemory(t *testing.T) {
	key := [2]uint64{1, 2}
	items := named("in", 5)
	b := append(wantBuild(t, key, items), "beside"...)
	b = b[: len(b)-6 : len(b)]
	whole := bytes.Clone(b[:cap(b)])
	values, _ := gcs.Values(b)
	again, _ := gcs.Values(b)
	matched, _ := gcs.Any(key, b, items)
	matchedAgain, _ := gcs.Any(key, b, items)
	gcs.Match(key, b, items[0])
	if !bytes.Equal(b[:cap(b)], whole) {
		t.Fatalf("the calls made %x of %x", b[:cap(b)], whole)
	}
	want := slices.Clone(values)
	clear(values)
	clear(matched)
	clear(b)
	if !slices.Equal(again, want) || !slices.Equal(matchedAgain, []int{0, 1, 2, 3, 4}) {
		t.Errorf("with the filter or other answers the answers became %d and %d", again, matchedAgain)
	}
	if l, e := gcs.Values(whole[:len(whole)-6]); e != api.OK || !slices.Equal(l, want) {
		t.Errorf("Values are %d, %v, want %d", l, e, want)
	}
	for i, item := range named("in", 5) {
		if !bytes.Equal(items[i], item) {
			t.Errorf("item %d became %q", i, items[i])
		}
	}
}

// P13.1, P13.4: any sorted numbers that are below the bound.
func TestValuesScattered(t *testing.T) {
	for seed := range uint64(500) {
		l := scattered(1+int(seed%70), seed)
		for i := range l {
			l[i] %= uint64(len(l)) * each
			if i > 0 && seed%5 == 0 && l[i]%3 == 0 {
				l[i] = l[i-1]
			}
		}
		slices.Sort(l)
		got, e := gcs.Values(filterOf(l))
		if e != api.OK || !slices.Equal(got, l) {
			t.Fatalf("Values of the filter of %d are %d, %v", l, got, e)
		}
		wantValues(t, filterOf(l))
	}
}

// P13.1, P13.4: any bytes, with any key and item.
func FuzzValues(f *testing.F) {
	f.Add([]byte{0}, uint64(0), uint64(0), []byte{})
	f.Add([]byte("\x01\x3a\x58\xf0"), uint64(7), uint64(9), []byte("a"))
	f.Add([]byte("\x02\x4f\x62\x10\x00\x00"), uint64(7), uint64(9), []byte("2224"))
	f.Add([]byte("\xfd\xe8\x03\xff\xff\xff"), uint64(1), uint64(1), []byte("x"))
	f.Add([]byte("\x01\xc0\x00\x01"), uint64(1), uint64(1), []byte("x"))
	f.Fuzz(func(t *testing.T, b []byte, k, l uint64, item []byte) {
		wantValues(t, b)
		wantMatches(t, [2]uint64{k, l}, b, [][]byte{item, nil, b})
	})
}

// P13.1 to P13.4: any items, which are the parts of a text between its line ends, with any key.
func FuzzBuild(f *testing.F) {
	f.Add([]byte("a\nbb\n\na"), uint64(7), uint64(9))
	f.Add([]byte("2224\n2705"), uint64(7), uint64(9))
	f.Add([]byte{}, uint64(math.MaxUint64), uint64(0))
	f.Fuzz(func(t *testing.T, text []byte, k, l uint64) {
		key := [2]uint64{k, l}
		items := bytes.Split(text, []byte{'\n'})
		b := wantBuild(t, key, items)
		if !bytes.Equal(wantBuild(t, key, append(backwards(items), items[0])), b) {
			t.Fatalf("the filter depends on the order of %q", items)
		}
		if len(b) == 0 {
			return
		}
		if e := wantValues(t, b); e != api.OK {
			t.Fatalf("Values of %x is %v", b, e)
		}
		if got := wantMatches(t, key, b, items); got != len(items) {
			t.Fatalf("%d of %d items match", got, len(items))
		}
	})
}
