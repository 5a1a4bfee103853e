package sha2_test

import (
	"bytes"
	"crypto/sha256"
	"encoding"
	"encoding/binary"
	"encoding/hex"
	"math"
	"math/big"
	"testing"

	"masthead/api"
	"masthead/sha2"
)

// text is n bytes with bits in all places, other ones for each seed.
func text(n int, seed uint64) []byte {
	b := make([]byte, n)
	x := seed*0x9e3779b97f4a7c15 + 1
	for i := range b {
		x ^= x << 13
		x ^= x >> 7
		x ^= x << 17
		b[i] = byte(x >> 32)
	}
	return b
}

// lengths are all lengths of up to more than three blocks, and some longer ones.
func lengths() []int {
	var l []int
	for n := range 200 {
		l = append(l, n)
	}
	for _, blocks := range []int{4, 5, 16, 100} {
		for d := -10; d <= 2; d++ {
			l = append(l, 64*blocks+d)
		}
	}
	return append(l, 1<<16+9)
}

func hash(b []byte) api.Hash {
	return sha256.Sum256(b)
}

func doubleHash(b []byte) api.Hash {
	once := sha256.Sum256(b)
	return sha256.Sum256(once[:])
}

func wantHash(t *testing.T, call string, got, want api.Hash) {
	t.Helper()
	if got != want {
		t.Errorf("%s is %x, want %x", call, got, want)
	}
}

func fromHex(t *testing.T, s string) api.Hash {
	t.Helper()
	b, err := hex.DecodeString(s)
	if err != nil || len(b) != 32 {
		t.Fatalf("%q is no hash", s)
	}
	return api.Hash(b)
}

// hasherOf is one to which the parts were written.
func hasherOf(parts ...[]byte) *sha2.Hasher {
	h := sha2.New()
	for _, b := range parts {
		h.Write(b)
	}
	return h
}

// blockByLibrary is what Block must return, from any state.
func blockByLibrary(t *testing.T, h [8]uint32, b [64]byte) [8]uint32 {
	t.Helper()
	form := []byte("sha\x03")
	for _, word := range h {
		form = binary.BigEndian.AppendUint32(form, word)
	}
	form = append(form, make([]byte, 64+8)...)
	d := sha256.New()
	if err := d.(encoding.BinaryUnmarshaler).UnmarshalBinary(form); err != nil {
		t.Fatal(err)
	}
	d.Write(b[:])
	form, err := d.(encoding.BinaryMarshaler).MarshalBinary()
	if err != nil {
		t.Fatal(err)
	}
	var out [8]uint32
	for i := range out {
		out[i] = binary.BigEndian.Uint32(form[4+4*i:])
	}
	return out
}

// blockByWords is Block as the chapter words it, its constants worked out from the primes.
func blockByWords(s [8]uint32, b [64]byte) [8]uint32 {
	rotr := func(x uint32, k int) uint32 { return x>>k | x<<(32-k) }
	var w [64]uint32
	for t := range w {
		if t < 16 {
			w[t] = binary.BigEndian.Uint32(b[4*t:])
			continue
		}
		x, y := w[t-15], w[t-2]
		w[t] = w[t-16] + (rotr(x, 7) ^ rotr(x, 18) ^ x>>3) + w[t-7] + (rotr(y, 17) ^ rotr(y, 19) ^ y>>10)
	}
	k := rootWords(64, 3)
	a, bb, c, d, e, f, g, h := s[0], s[1], s[2], s[3], s[4], s[5], s[6], s[7]
	for t := range w {
		p := h + (rotr(e, 6) ^ rotr(e, 11) ^ rotr(e, 25)) + ((e & f) ^ (^e & g)) + k[t] + w[t]
		q := (rotr(a, 2) ^ rotr(a, 13) ^ rotr(a, 22)) + ((a & bb) ^ (a & c) ^ (bb & c))
		h, g, f, e, d, c, bb, a = g, f, e, d+p, c, bb, a, p+q
	}
	return [8]uint32{s[0] + a, s[1] + bb, s[2] + c, s[3] + d, s[4] + e, s[5] + f, s[6] + g, s[7] + h}
}

// rootWords are the first 32 bits of the fractional parts of the roots of the first n primes.
func rootWords(n int, degree int64) []uint32 {
	var out []uint32
	for p := int64(2); len(out) < n; p++ {
		if !big.NewInt(p).ProbablyPrime(0) {
			continue
		}
		// The root of p * 2^(32 degree) is that of p, with 32 bits of its fraction.
		whole := new(big.Int).Lsh(big.NewInt(p), uint(32*degree))
		root := new(big.Int)
		for i := 40; i >= 0; i-- {
			try := new(big.Int).SetBit(root, i, 1)
			if new(big.Int).Exp(try, big.NewInt(degree), nil).Cmp(whole) <= 0 {
				root = try
			}
		}
		out = append(out, uint32(root.Uint64()))
	}
	return out
}

func states() [][8]uint32 {
	l := [][8]uint32{{}, [8]uint32(rootWords(8, 2))}
	var ones, edge [8]uint32
	for i := range ones {
		ones[i] = math.MaxUint32
		edge[i] = 1 << 31
	}
	l = append(l, ones, edge)
	for seed := range uint64(30) {
		var h [8]uint32
		b := text(32, seed)
		for i := range h {
			h[i] = binary.BigEndian.Uint32(b[4*i:])
		}
		l = append(l, h)
	}
	return l
}

func blocks() [][64]byte {
	l := [][64]byte{{}, [64]byte(bytes.Repeat([]byte{0xff}, 64)), [64]byte(bytes.Repeat([]byte{0x80}, 64))}
	for i := range 64 {
		var one [64]byte
		one[i] = 1 << (i % 8)
		l = append(l, one)
	}
	for seed := range uint64(20) {
		l = append(l, [64]byte(text(64, seed)))
	}
	return l
}

// P2.1: the example of the chapter, and other well-known ones.
func TestExamples(t *testing.T) {
	for s, want := range map[string]string{
		"abc": "ba7816bf8f01cfea414140de5dae2223b00361a396177a9cb410ff61f20015ad",
		"":    "e3b0c44298fc1c149afbf4c8996fb92427ae41e4649b934ca495991b7852b855",
		"abcdbcdecdefdefgefghfghighijhijkijkljklmklmnlmnomnopnopq": "248d6a61d20638b8e5c026930c3e6039a33ce45964ff2167f6ecedd419db06c1",
	} {
		wantHash(t, "Sum of "+s, sha2.Sum([]byte(s)), fromHex(t, want))
		wantHash(t, "the sum of a hasher of "+s, hasherOf([]byte(s)).Sum(), fromHex(t, want))
	}
	twice := fromHex(t, "9595c9df90075148eb06860365df33584b75bff782a510c6cd4883a419833d50")
	wantHash(t, "Twice of hello", sha2.Twice([]byte("hello")), twice)
}

// P2.1: Block from the initial state, from others, and along a chain of blocks.
func TestBlock(t *testing.T) {
	for _, h := range states() {
		for _, b := range blocks() {
			want := blockByLibrary(t, h, b)
			if got := sha2.Block(h, b); got != want {
				t.Fatalf("Block(%x, %x) is %x, want %x", h, b, got, want)
			}
		}
	}
	h := [8]uint32(rootWords(8, 2))
	for i, b := range blocks() {
		want := blockByWords(h, b)
		if got := sha2.Block(h, b); got != want {
			t.Fatalf("block %d of the chain leads to %x, want %x", i, got, want)
		}
		h = want
	}
}

// P2.1: the blocks of a text, with its end, lead from the initial state to its hash.
func TestBlocksMakeTheHash(t *testing.T) {
	for _, n := range lengths() {
		b := text(n, 3)
		padded := append(bytes.Clone(b), 0x80)
		for len(padded)%64 != 56 {
			padded = append(padded, 0)
		}
		padded = binary.BigEndian.AppendUint64(padded, uint64(8*n))
		h := [8]uint32(rootWords(8, 2))
		for i := 0; i < len(padded); i += 64 {
			h = sha2.Block(h, [64]byte(padded[i:]))
		}
		var want api.Hash
		for i, word := range h {
			binary.BigEndian.PutUint32(want[4*i:], word)
		}
		wantHash(t, "Sum", sha2.Sum(b), want)
	}
}

// P2.1: the hash and the double hash of texts of all lengths about the end of a block.
func TestSumAndTwice(t *testing.T) {
	for _, n := range lengths() {
		for seed := range uint64(3) {
			b := text(n, seed)
			wantHash(t, "Sum", sha2.Sum(b), hash(b))
			wantHash(t, "Twice", sha2.Twice(b), doubleHash(b))
			wantHash(t, "the sum of a hasher", hasherOf(b).Sum(), hash(b))
		}
		for _, fill := range []byte{0, 0x80, 0xff} {
			b := bytes.Repeat([]byte{fill}, n)
			wantHash(t, "Sum", sha2.Sum(b), hash(b))
		}
	}
}

// P2.1: no arguments, nil and empty ones are the empty text.
func TestNothing(t *testing.T) {
	for _, l := range [][][]byte{nil, {}, {nil}, {{}}, {nil, {}, nil}, {make([]byte, 0, 70)}} {
		wantHash(t, "Sum of nothing", sha2.Sum(l...), hash(nil))
		wantHash(t, "Twice of nothing", sha2.Twice(l...), doubleHash(nil))
		h := hasherOf(l...)
		wantHash(t, "the sum of a hasher of nothing", h.Sum(), hash(nil))
		if h.Len() != 0 {
			t.Errorf("Len of nothing is %d", h.Len())
		}
	}
}

// partings are ways to part n bytes: where each part but the last one ends.
func partings(n int) [][]int {
	l := [][]int{nil, {0}, {n}, {0, 0, n, n}, {n / 2, n / 2}}
	for _, cut := range []int{1, 55, 56, 63, 64, 65, 119, 120, 127, 128, 129} {
		if cut <= n {
			l = append(l, []int{cut}, []int{cut, cut}, []int{cut / 2, cut})
		}
	}
	for _, step := range []int{1, 3, 55, 56, 63, 64, 65, 100, 128} {
		var cuts []int
		for i := step; i < n; i += step {
			cuts = append(cuts, i)
		}
		l = append(l, cuts)
	}
	return l
}

func partsOf(b []byte, cuts []int) [][]byte {
	var parts [][]byte
	from := 0
	for _, to := range cuts {
		parts = append(parts, b[from:to])
		from = to
	}
	return append(parts, b[from:])
}

// P2.2: the parts of a text do not matter, of Sum, of Twice, and of a hasher.
func TestParts(t *testing.T) {
	for _, n := range []int{0, 1, 2, 54, 55, 56, 57, 63, 64, 65, 100, 119, 120, 121, 127, 128, 129, 191, 192, 193, 400} {
		b := text(n, 5)
		for _, cuts := range partings(n) {
			parts := partsOf(b, cuts)
			wantHash(t, "Sum of parts", sha2.Sum(parts...), hash(b))
			wantHash(t, "Twice of parts", sha2.Twice(parts...), doubleHash(b))
			h := hasherOf(parts...)
			wantHash(t, "the sum of a hasher of parts", h.Sum(), hash(b))
			if h.Len() != n {
				t.Errorf("%d bytes parted at %v: Len is %d", n, cuts, h.Len())
			}
		}
	}
}

// P2.2: each cut of a text into two, and into three.
func TestEachCut(t *testing.T) {
	b := text(200, 9)
	want := hash(b)
	for i := range len(b) + 1 {
		wantHash(t, "Sum of two parts", sha2.Sum(b[:i], b[i:]), want)
		for j := i; j <= len(b); j += 7 {
			wantHash(t, "Sum of three parts", sha2.Sum(b[:i], b[i:j], b[j:]), want)
		}
	}
}

// P2.1 and P2.2: Sum and Len between two writes are of what was written, and change nothing.
func TestSumBetweenWrites(t *testing.T) {
	b := text(300, 7)
	for _, step := range []int{1, 2, 9, 31, 55, 56, 63, 64, 65, 119, 120, 128, 150} {
		h := sha2.New()
		for from := 0; from < len(b); from += step {
			to := min(from+step, len(b))
			h.Write(b[from:to])
			for range 2 {
				wantHash(t, "the sum between two writes", h.Sum(), hash(b[:to]))
				if h.Len() != to {
					t.Fatalf("Len after %d bytes is %d", to, h.Len())
				}
			}
		}
	}
}

// P2.1: a hasher knows nothing of another one, nor of Sum and Twice.
func TestHashersAreApart(t *testing.T) {
	one, other := sha2.New(), sha2.New()
	one.Write([]byte("abc"))
	wantHash(t, "the sum of the other", other.Sum(), hash(nil))
	other.Write([]byte("xyz"))
	sha2.Twice([]byte("between"))
	one.Write([]byte("def"))
	wantHash(t, "the sum of one", one.Sum(), hash([]byte("abcdef")))
	wantHash(t, "the sum of the other", other.Sum(), hash([]byte("xyz")))
	if one.Len() != 6 || other.Len() != 3 {
		t.Errorf("Len of both is %d and %d", one.Len(), other.Len())
	}
	wantHash(t, "the sum of a later one", sha2.New().Sum(), hash(nil))
}

// P2.1: what is handed in stays as it is, beyond its length too, and isn't kept.
func TestArgumentsStay(t *testing.T) {
	for _, n := range []int{0, 1, 55, 56, 63, 64, 65, 119, 120, 128, 300} {
		room := text(n+200, 11)
		before := bytes.Clone(room)
		b := room[:n]
		h := hasherOf(b)
		sum, twice := sha2.Sum(b, b), sha2.Twice(b)
		h.Sum()
		if !bytes.Equal(room, before) {
			t.Fatalf("a text of %d bytes was changed", n)
		}
		for i := range room {
			room[i] ^= 0xff
		}
		h.Write([]byte("more"))
		wantHash(t, "the sum after a change of what was written", h.Sum(), hash(append(bytes.Clone(before[:n]), "more"...)))
		wantHash(t, "Sum", sum, hash(append(bytes.Clone(before[:n]), before[:n]...)))
		wantHash(t, "Twice", twice, doubleHash(before[:n]))
	}
}

// P2.1: Block leaves the arrays that it is given as they are.
func TestBlockLeavesItsArguments(t *testing.T) {
	h, b := states()[9], blocks()[70]
	h0, b0 := h, b
	sha2.Block(h, b)
	if h != h0 || b != b0 {
		t.Error("Block changed its arguments")
	}
}

// P2.1: a change of what a hasher answered changes nothing in it.
func TestAnswersStay(t *testing.T) {
	h := hasherOf([]byte("abc"))
	sum := h.Sum()
	clear(sum[:])
	wantHash(t, "the sum asked again", h.Sum(), hash([]byte("abc")))
}

func FuzzSum(f *testing.F) {
	f.Add([]byte("abc"), 1)
	f.Fuzz(func(t *testing.T, b []byte, cut int) {
		cut = min(max(cut, 0), len(b))
		wantHash(t, "Sum", sha2.Sum(b[:cut], b[cut:]), hash(b))
		wantHash(t, "the sum of a hasher", hasherOf(b[:cut], b[cut:]).Sum(), hash(b))
	})
}
