package sip_test

import (
	"bytes"
	"encoding/binary"
	"math"
	"math/big"
	"slices"
	"testing"

	"masthead/api"
	"masthead/sip"
)

// chapterKey is the key of the chapter's example.
var chapterKey = [2]uint64{0x0706050403020100, 0x0f0e0d0c0b0a0908}

// counted has at index n what OpenSSL's SipHash-2-4 answers for the bytes 0 to n-1, with chapterKey.
var counted = [64]uint64{
	0x726fdb47dd0e0e31, 0x74f839c593dc67fd, 0x0d6c8009d9a94f5a, 0x85676696d7fb7e2d,
	0xcf2794e0277187b7, 0x18765564cd99a68d, 0xcbc9466e58fee3ce, 0xab0200f58b01d137,
	0x93f5f5799a932462, 0x9e0082df0ba9e4b0, 0x7a5dbbc594ddb9f3, 0xf4b32f46226bada7,
	0x751e8fbc860ee5fb, 0x14ea5627c0843d90, 0xf723ca908e7af2ee, 0xa129ca6149be45e5,
	0x3f2acc7f57c29bdb, 0x699ae9f52cbe4794, 0x4bc1b3f0968dd39c, 0xbb6dc91da77961bd,
	0xbed65cf21aa2ee98, 0xd0f2cbb02e3b67c7, 0x93536795e3a33e88, 0xa80c038ccd5ccec8,
	0xb8ad50c6f649af94, 0xbce192de8a85b8ea, 0x17d835b85bbb15f3, 0x2f2e6163076bcfad,
	0xde4daaaca71dc9a5, 0xa6a2506687956571, 0xad87a3535c49ef28, 0x32d892fad841c342,
	0x7127512f72f27cce, 0xa7f32346f95978e3, 0x12e0b01abb051238, 0x15e034d40fa197ae,
	0x314dffbe0815a3b4, 0x027990f029623981, 0xcadcd4e59ef40c4d, 0x9abfd8766a33735c,
	0x0e3ea96b5304a7d0, 0xad0c42d6fc585992, 0x187306c89bc215a9, 0xd4a60abcf3792b95,
	0xf935451de4f21df2, 0xa9538f0419755787, 0xdb9acddff56ca510, 0xd06c98cd5c0975eb,
	0xe612a3cb9ecba951, 0xc766e62cfcadaf96, 0xee64435a9752fe72, 0xa192d576b245165a,
	0x0a8787bf8ecb74b2, 0x81b3e73d20b49b6f, 0x7fa8220ba3b2ecea, 0x245731c13ca42499,
	0xb78dbfaf3a8d83bd, 0xea1ad565322a1a0b, 0x60e61c23a3795013, 0x6606d7e446282b93,
	0x6ca4ecb15c5f91e1, 0x9f626da15c9625f3, 0xe51b38608ef25f57, 0x958a324ceb064572,
}

// counting is n bytes that count from 0, and again from 0 after 255.
func counting(n int) []byte {
	b := make([]byte, n)
	for i := range b {
		b[i] = byte(i)
	}
	return b
}

// scattered are n integers with bits in all places, other ones for each seed.
func scattered(n int, seed uint64) []uint64 {
	l := make([]uint64, n)
	x := seed*0x9e3779b97f4a7c15 + 1
	for i := range l {
		x ^= x << 13
		x ^= x >> 7
		x ^= x << 17
		l[i] = x * 0x2545f4914f6cdd1d
	}
	return l
}

// text is n bytes with bits in all places, other ones for each seed.
func text(n int, seed uint64) []byte {
	b := make([]byte, 0, n+8)
	for _, x := range scattered(n/8+1, seed) {
		b = binary.BigEndian.AppendUint64(b, x)
	}
	return b[:n]
}

// lengths are all lengths of up to more than 256 bytes, and some longer ones about a multiple of 8.
func lengths() []int {
	var l []int
	for n := range 300 {
		l = append(l, n)
	}
	for _, words := range []int{63, 64, 65, 96, 128, 1000} {
		for d := -8; d <= 8; d++ {
			l = append(l, 8*words+d)
		}
	}
	return l
}

func keys() [][2]uint64 {
	l := [][2]uint64{
		{}, chapterKey, {1, 0}, {0, 1}, {1 << 63, 0}, {0, 1 << 63},
		{math.MaxUint64, 0}, {0, math.MaxUint64}, {math.MaxUint64, math.MaxUint64},
		{chapterKey[1], chapterKey[0]},
	}
	for seed := range uint64(10) {
		l = append(l, [2]uint64(scattered(2, seed)))
	}
	return l
}

// wrapped is n modulo 2^64.
func wrapped(n *big.Int) uint64 {
	return new(big.Int).Mod(n, new(big.Int).Lsh(big.NewInt(1), 64)).Uint64()
}

func sum(x, y uint64) uint64 {
	return wrapped(new(big.Int).Add(new(big.Int).SetUint64(x), new(big.Int).SetUint64(y)))
}

// rotl moves bit i of x to place i + k, bit by bit.
func rotl(x uint64, k int) uint64 {
	var out uint64
	for i := range 64 {
		out |= x >> i & 1 << ((i + k) % 64)
	}
	return out
}

// roundByWords is Round as the chapter words it.
func roundByWords(v [4]uint64) [4]uint64 {
	a, b, c, d := v[0], v[1], v[2], v[3]
	a = sum(a, b)
	b = rotl(b, 13) ^ a
	a = rotl(a, 32)
	c = sum(c, d)
	d = rotl(d, 16) ^ c
	a = sum(a, d)
	d = rotl(d, 21) ^ a
	c = sum(c, b)
	b = rotl(b, 17) ^ c
	c = rotl(c, 32)
	return [4]uint64{a, b, c, d}
}

// hashByWords is Hash as the chapter words it, of the text with its padding laid out; its rounds are those of TestRound.
func hashByWords(key [2]uint64, b []byte) uint64 {
	padded := bytes.Clone(b)
	for len(padded)%8 != 7 {
		padded = append(padded, 0)
	}
	padded = append(padded, byte(len(b)%256))
	k, l := key[0], key[1]
	v := [4]uint64{k ^ 0x736f6d6570736575, l ^ 0x646f72616e646f6d, k ^ 0x6c7967656e657261, l ^ 0x7465646279746573}
	for ; len(padded) > 0; padded = padded[8:] {
		m := binary.LittleEndian.Uint64(padded)
		v[3] ^= m
		v = sip.Round(sip.Round(v))
		v[0] ^= m
	}
	v[2] ^= 255
	v = sip.Round(sip.Round(sip.Round(sip.Round(v))))
	return v[0] ^ v[1] ^ v[2] ^ v[3]
}

// rangeByProduct is Range, of the whole product.
func rangeByProduct(x, n uint64) uint64 {
	product := new(big.Int).Mul(new(big.Int).SetUint64(x), new(big.Int).SetUint64(n))
	return product.Rsh(product, 64).Uint64()
}

func wantSame(t *testing.T, key [2]uint64, b []byte, want uint64) {
	t.Helper()
	if got := sip.Hash(key, b); got != want {
		t.Errorf("Hash(%x, %d bytes %.8x..) is %x, want %x", key, len(b), b, got, want)
	}
}

// P3.1: the examples of the chapter.
func TestExamples(t *testing.T) {
	wantSame(t, chapterKey, counting(15), 0xa129ca6149be45e5)
	if got := sip.Range(1<<63, 10); got != 5 {
		t.Errorf("Range(2^63, 10) is %d, want 5", got)
	}
}

// P3.1: rounds worked out apart from the program.
func TestRoundIsFixed(t *testing.T) {
	const all, top = math.MaxUint64, 1 << 63
	for v, want := range map[[4]uint64][4]uint64{
		{}:                   {},
		{1, 0, 0, 0}:         {0x100000000, 0x20001, 0x100000000, 0x100000000},
		{0, 1, 0, 0}:         {0x100000000, 0x40022001, 0x200100000000, 0x100000000},
		{0, 0, 1, 0}:         {0x1, 0x1, 0x100000000, 0x200001},
		{0, 0, 0, 1}:         {0x10001, 0x1, 0x100000000, 0x2000210001},
		{all, all, all, all}: {0xffffffff00000000, 0xfffffffffffdffff, 0xffffffffffffffff, 0xffffffff00200000},
		{top, top, top, top}: {0x8000, 0x20001000, 0x100000000000, 0x1000008000},
		{0x7469686173716475, 0x6b617f6d656e6665, 0x6b7f62616d677361, 0x7b6b696e727e6c7b}: {0x6864848c93698c85, 0x41d43f143c94a7dc, 0xf3f94792d7121732, 0x5e52f75805987c12},
		{0xfedcba9876543210, 0x0123456789abcdef, 0x8000000000000001, 0xdeadbeefcafef00d}: {0xe04274113af32ea2, 0xeb95c13e6ef6214f, 0x51410fe9f600cdba, 0x62652a74ee8f26ec},
	} {
		if got := sip.Round(v); got != want {
			t.Errorf("Round(%x) is %x, want %x", v, got, want)
		}
	}
}

// P3.1: Round of each bit alone, of integers whose sums pass 2^64, and of others with bits in all places.
func TestRound(t *testing.T) {
	var l [][4]uint64
	for place := range 4 {
		for bit := range 64 {
			var one, allButOne [4]uint64
			one[place] = 1 << bit
			for i := range allButOne {
				allButOne[i] = ^one[i]
			}
			l = append(l, one, allButOne)
		}
	}
	edges := []uint64{0, 1, 1<<32 - 1, 1 << 32, 1<<63 - 1, 1 << 63, math.MaxUint64 - 1, math.MaxUint64}
	for _, x := range edges {
		for _, y := range edges {
			l = append(l, [4]uint64{x, y, x, y}, [4]uint64{x, y, y, x}, [4]uint64{x, x, y, y})
		}
	}
	for seed := range uint64(500) {
		l = append(l, [4]uint64(scattered(4, seed)))
	}
	for _, v := range l {
		before, want := v, roundByWords(v)
		if got := sip.Round(v); got != want {
			t.Fatalf("Round(%x) is %x, want %x", v, got, want)
		}
		if v != before {
			t.Fatalf("Round changed %x to %x", before, v)
		}
	}
}

// P3.1: keyed hashes that were worked out apart from the program, of the empty text up to 63 bytes.
func TestShortHashIsFixed(t *testing.T) {
	for n, want := range counted {
		wantSame(t, chapterKey, counting(n), want)
	}
}

// P3.1: keyed hashes that were worked out likewise, of longer texts and at the edges of the keys.
func TestLongHashIsFixed(t *testing.T) {
	for n, want := range map[int]uint64{
		255: 0xa9c169fec74db21a, 256: 0x999d0526d2a7bfd7, 257: 0x8a817b8d55b29748,
		263: 0x86d801b865760792, 264: 0xe76e0db3fa0ee85c, 511: 0x969303d05e5af242,
		512: 0x883b57c3e55ada0e, 513: 0x90b6017f2031622b, 600: 0x218b019f35a717b1,
	} {
		wantSame(t, chapterKey, counting(n), want)
	}
	for n, want := range map[int]uint64{0: 0x1e924b9d737700d7, 8: 0xe849e8bb6ffe2567, 256: 0x80d978d6fa417c1e} {
		wantSame(t, [2]uint64{}, make([]byte, n), want)
	}
	ones := [2]uint64{math.MaxUint64, math.MaxUint64}
	for n, want := range map[int]uint64{
		0: 0x35dd279ee86ce565, 7: 0x7008818ecf918e11, 8: 0xf13e77491777f9d0,
		256: 0xc1774ddffc4ff77e, 1000: 0xe05715da9d947117,
	} {
		wantSame(t, ones, bytes.Repeat([]byte{0xff}, n), want)
	}
}

// P3.1: the keyed hash of texts of all lengths, by several keys.
func TestHash(t *testing.T) {
	for _, key := range keys() {
		for _, n := range lengths() {
			for _, b := range [][]byte{text(n, uint64(n)), make([]byte, n), bytes.Repeat([]byte{0xff}, n), bytes.Repeat([]byte{0x80}, n)} {
				wantSame(t, key, b, hashByWords(key, b))
			}
		}
	}
}

// P3.1: each bit of both halves of the key plays its part, and so does their order.
func TestEachBitOfTheKey(t *testing.T) {
	for _, b := range [][]byte{nil, counting(3), counting(8), counting(300)} {
		seen := map[uint64][2]uint64{sip.Hash(chapterKey, b): chapterKey}
		others := [][2]uint64{{chapterKey[1], chapterKey[0]}}
		for i := range chapterKey {
			for bit := range 64 {
				key := chapterKey
				key[i] ^= 1 << bit
				others = append(others, key)
			}
		}
		for _, key := range others {
			wantSame(t, key, b, hashByWords(key, b))
			if other, there := seen[sip.Hash(key, b)]; there {
				t.Errorf("%d bytes have the same hash by %x and by %x", len(b), key, other)
			}
			seen[sip.Hash(key, b)] = key
		}
	}
}

// P3.1: each byte of a text plays its part, and so does each zero byte at its end.
func TestEachByteOfTheText(t *testing.T) {
	for _, n := range []int{1, 7, 8, 9, 15, 16, 17, 260} {
		b := text(n, 2)
		seen := map[uint64]bool{sip.Hash(chapterKey, b): true}
		for i := range b {
			changed := bytes.Clone(b)
			changed[i] ^= 0x80
			seen[sip.Hash(chapterKey, changed)] = true
		}
		for zeros := 1; zeros <= 260; zeros++ {
			seen[sip.Hash(chapterKey, append(bytes.Clone(b), make([]byte, zeros)...))] = true
		}
		if len(seen) != 1+n+260 {
			t.Errorf("%d texts near one of %d bytes have %d hashes", 1+n+260, n, len(seen))
		}
	}
}

// P3.1: a nil text, an empty one, and one with room beyond its end.
func TestEmptyText(t *testing.T) {
	for _, b := range [][]byte{nil, {}, make([]byte, 0, 20), counting(20)[:0], counting(20)[20:]} {
		wantSame(t, chapterKey, b, counted[0])
	}
}

// P3.1: what is beyond the end of a text plays no part; text and key stay as they are.
func TestArgumentsStay(t *testing.T) {
	for _, n := range []int{0, 1, 7, 8, 9, 15, 16, 255, 256, 257} {
		room := text(n+30, 4)
		before := bytes.Clone(room)
		key := chapterKey
		first := sip.Hash(key, room[:n])
		if !bytes.Equal(room, before) || key != chapterKey {
			t.Fatalf("Hash of %d bytes changed what it was given", n)
		}
		for i := n; i < len(room); i++ {
			room[i] ^= 0xff
		}
		wantSame(t, key, room[:n], first)
		wantSame(t, key, room[:n], hashByWords(key, before[:n]))
	}
}

// P3.1: Key of hashes whose bytes are all different, and of the edges.
func TestKey(t *testing.T) {
	var different api.Hash
	for i := range different {
		different[i] = byte(0xf1 - 3*i)
	}
	l := []api.Hash{{}, different, api.Hash(counting(32)), api.Hash(bytes.Repeat([]byte{0xff}, 32))}
	for i := range 32 {
		var one api.Hash
		one[i] = 0x81
		l = append(l, one)
	}
	for seed := range uint64(50) {
		l = append(l, api.Hash(text(32, seed)))
	}
	for _, h := range l {
		before := h
		want := [2]uint64{binary.LittleEndian.Uint64(h[:8]), binary.LittleEndian.Uint64(h[8:16])}
		if got := sip.Key(h); got != want {
			t.Errorf("Key(%x) is %x, want %x", h, got, want)
		}
		if h != before {
			t.Errorf("Key changed %x to %x", before, h)
		}
	}
	if got, want := sip.Key(different), [2]uint64{0xdcdfe2e5e8ebeef1, 0xc4c7cacdd0d3d6d9}; got != want {
		t.Errorf("Key(%x) is %x, want %x", different, got, want)
	}
	if got := sip.Key(api.Hash(counting(32))); got != chapterKey {
		t.Errorf("Key of the bytes that count is %x, want %x", got, chapterKey)
	}
}

// P3.1: each of the first sixteen bytes of a hash plays its part in Key, and none of the last sixteen does.
func TestKeyIsOfTheFirstHalf(t *testing.T) {
	h := api.Hash(counting(32))
	for i := range h {
		changed := h
		changed[i] ^= 0xa5
		if same := sip.Key(changed) == sip.Key(h); same != (i >= 16) {
			t.Errorf("after a change of byte %d Key is the same: %v", i, same)
		}
	}
}

// bounds are integers about all powers of 2, and others with bits in all places; in order, each once.
func bounds() []uint64 {
	l := []uint64{0, 3, 5, 7, 10, 1000, 784931, 784931 * 1000, math.MaxUint64 - 2, math.MaxUint64 - 1, math.MaxUint64}
	for bit := range 64 {
		l = append(l, 1<<bit-1, 1<<bit, 1<<bit+1)
	}
	l = append(l, scattered(100, 6)...)
	slices.Sort(l)
	return slices.Compact(l)
}

// P3.1: Range at 0, at 1, and at the greatest integers.
func TestRangeIsFixed(t *testing.T) {
	const all = math.MaxUint64
	for _, c := range [][3]uint64{
		{0, 0, 0}, {0, 1, 0}, {1, 0, 0}, {1, 1, 0}, {0, 10, 0}, {0, all, 0}, {all, 0, 0},
		{1, all, 0}, {all, 1, 0}, {2, all, 1}, {all, 2, 1}, {all, 10, 9}, {10, all, 9},
		{all, all, all - 1}, {all - 1, all, all - 2}, {all, all - 1, all - 2},
		{1 << 63, 1, 0}, {1 << 63, 2, 1}, {1<<63 - 1, 2, 0}, {1 << 63, 3, 1}, {1 << 63, 1 << 63, 1 << 62},
		{1 << 32, 1 << 32, 1}, {1<<32 - 1, 1 << 32, 0}, {1<<32 - 1, 1<<32 + 1, 0}, {1<<32 + 1, 1<<32 + 1, 1},
		{0xfedcba9876543210, 0x0123456789abcdef, 0x0121fa00ad77d742},
	} {
		if got := sip.Range(c[0], c[1]); got != c[2] {
			t.Errorf("Range(%x, %x) is %x, want %x", c[0], c[1], got, c[2])
		}
	}
}

// P3.1: Range is the upper half of the product, and less than n if n is not 0.
func TestRange(t *testing.T) {
	for _, x := range bounds() {
		for _, n := range bounds() {
			got := sip.Range(x, n)
			if want := rangeByProduct(x, n); got != want {
				t.Fatalf("Range(%x, %x) is %x, want %x", x, n, got, want)
			}
			if n != 0 && got >= n {
				t.Fatalf("Range(%x, %x) is %x, not less than n", x, n, got)
			}
		}
	}
}

// P3.2: Range does not decrease from one integer to a greater one, of x and of n.
func TestRangeDoesNotDecrease(t *testing.T) {
	l := bounds()
	for _, fixed := range l {
		for i := 1; i < len(l); i++ {
			less, more := l[i-1], l[i]
			if sip.Range(less, fixed) > sip.Range(more, fixed) {
				t.Fatalf("Range of x decreases from %x to %x, with n %x", less, more, fixed)
			}
			if sip.Range(fixed, less) > sip.Range(fixed, more) {
				t.Fatalf("Range of n decreases from %x to %x, with x %x", less, more, fixed)
			}
		}
	}
}

// P3.1 and P3.2: each place where Range goes one up, and the integer ahead of it.
func TestRangeGoesUpByOne(t *testing.T) {
	for _, n := range []uint64{2, 3, 10, 255, 256, 257, 1000} {
		for step := uint64(1); step < n; step++ {
			// The least x whose product with n is not less than step * 2^64.
			first := new(big.Int).Lsh(new(big.Int).SetUint64(step), 64)
			first.Add(first, new(big.Int).SetUint64(n-1))
			x := first.Div(first, new(big.Int).SetUint64(n)).Uint64()
			if at, ahead := sip.Range(x, n), sip.Range(x-1, n); at != step || ahead != step-1 {
				t.Fatalf("Range(%x, %d) is %d and one ahead of it %d, want %d and %d", x, n, at, ahead, step, step-1)
			}
		}
	}
}

func FuzzHash(f *testing.F) {
	f.Add(uint64(0x0706050403020100), uint64(0x0f0e0d0c0b0a0908), counting(15))
	f.Fuzz(func(t *testing.T, k, l uint64, b []byte) {
		key := [2]uint64{k, l}
		wantSame(t, key, b, hashByWords(key, b))
	})
}

func FuzzRange(f *testing.F) {
	f.Add(uint64(1<<63), uint64(10))
	f.Fuzz(func(t *testing.T, x, n uint64) {
		got := sip.Range(x, n)
		if want := rangeByProduct(x, n); got != want || n != 0 && got >= n {
			t.Errorf("Range(%x, %x) is %x, want %x", x, n, got, want)
		}
		if x < math.MaxUint64 && sip.Range(x+1, n) < got || n < math.MaxUint64 && sip.Range(x, n+1) < got {
			t.Errorf("Range decreases after %x, %x", x, n)
		}
	})
}
