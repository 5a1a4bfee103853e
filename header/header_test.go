package header_test

import (
	"bytes"
	"crypto/sha256"
	"encoding/binary"
	"encoding/hex"
	"math"
	"math/big"
	"slices"
	"strings"
	"testing"

	"masthead/api"
	"masthead/header"
)

const (
	// easy are bits that about every second hash meets.
	easy = 0x207fffff
	// mostTries is how many nonces Seek considers at most.
	mostTries = 65536
)

// filled is a hash of one byte, 32 times.
func filled(b byte) api.Hash {
	return api.Hash(bytes.Repeat([]byte{b}, 32))
}

// digits is the hash of 64 hexadecimal digits, in the order of its bytes.
func digits(t *testing.T, s string) api.Hash {
	t.Helper()
	b, err := hex.DecodeString(s)
	if err != nil {
		t.Fatal(err)
	}
	return api.Hash(b)
}

// text is n bytes with bits in all places, other ones for each seed.
func text(n int, seed uint64) []byte {
	b := make([]byte, n)
	x := seed*0x9e3779b97f4a7c15 + 1
	for i := range b {
		x ^= x << 13
		x ^= x >> 7
		x ^= x << 17
		b[i] = byte(x >> 32)
	}
	return b
}

// modelBytes is what the chapter says of the bytes of a header, each field at its place.
func modelBytes(h header.Header) []byte {
	b := make([]byte, 80)
	binary.LittleEndian.PutUint32(b[0:], h.Version)
	copy(b[4:36], h.Prev[:])
	copy(b[36:68], h.Root[:])
	binary.LittleEndian.PutUint32(b[68:], h.Time)
	binary.LittleEndian.PutUint32(b[72:], h.Bits)
	binary.LittleEndian.PutUint32(b[76:], h.Nonce)
	return b
}

// modelHeader is the header of 80 bytes, each field from its place.
func modelHeader(b []byte) header.Header {
	return header.Header{
		Version: binary.LittleEndian.Uint32(b[0:]),
		Prev:    api.Hash(b[4:36]),
		Root:    api.Hash(b[36:68]),
		Time:    binary.LittleEndian.Uint32(b[68:]),
		Bits:    binary.LittleEndian.Uint32(b[72:]),
		Nonce:   binary.LittleEndian.Uint32(b[76:]),
	}
}

// modelHash is the double hash of the bytes of a header, by the library.
func modelHash(h header.Header) api.Hash {
	once := sha256.Sum256(modelBytes(h))
	return sha256.Sum256(once[:])
}

// modelTarget is the target of a compact by whole numbers, nil where there is none.
func modelTarget(bits uint32) *big.Int {
	v := big.NewInt(int64(bits & 0x7fffff))
	if e := uint(bits >> 24); e <= 3 {
		v.Rsh(v, 8*(3-e))
	} else {
		v.Lsh(v, 8*(e-3))
	}
	if bits&0x800000 != 0 || v.Sign() == 0 || v.BitLen() > 256 {
		return nil
	}
	return v
}

// modelMeets is what the chapter says of a header that meets its target, by whole numbers.
func modelMeets(h header.Header) bool {
	target := modelTarget(h.Bits)
	if target == nil {
		return false
	}
	x := modelHash(h)
	slices.Reverse(x[:])
	return new(big.Int).SetBytes(x[:]).Cmp(target) <= 0
}

// modelSeek is what the chapter says of Seek: the nonces as whole numbers, modulo 2^32.
func modelSeek(h header.Header, tries int) (header.Header, bool) {
	first := uint64(h.Nonce)
	for i := range uint64(min(max(tries, 0), mostTries)) {
		h.Nonce = uint32((first + i) % (1 << 32))
		if modelMeets(h) {
			return h, true
		}
	}
	return header.Header{}, false
}

// known are two headers of 2009, with their bytes and hashes.
func known(t *testing.T) []struct {
	h    header.Header
	b    string
	hash string
} {
	return []struct {
		h    header.Header
		b    string
		hash string
	}{
		{
			header.Header{
				Version: 1,
				Root:    digits(t, "3ba3edfd7a7b12b27ac72c3e67768f617fc81bc3888a51323a9fb8aa4b1e5e4a"),
				Time:    1231006505, Bits: 0x1d00ffff, Nonce: 2083236893,
			},
			"01000000" + strings.Repeat("00", 32) +
				"3ba3edfd7a7b12b27ac72c3e67768f617fc81bc3888a51323a9fb8aa4b1e5e4a" + "29ab5f49" + "ffff001d" + "1dac2b7c",
			"6fe28c0ab6f1b372c1a6a246ae63f74f931e8365e15a089c68d6190000000000",
		},
		{
			header.Header{
				Version: 1,
				Prev:    digits(t, "6fe28c0ab6f1b372c1a6a246ae63f74f931e8365e15a089c68d6190000000000"),
				Root:    digits(t, "982051fd1e4ba744bbbe680e1fee14677ba1a3c3540bf7b1cdb606e857233e0e"),
				Time:    1231469665, Bits: 0x1d00ffff, Nonce: 2573394689,
			},
			"01000000" + "6fe28c0ab6f1b372c1a6a246ae63f74f931e8365e15a089c68d6190000000000" +
				"982051fd1e4ba744bbbe680e1fee14677ba1a3c3540bf7b1cdb606e857233e0e" + "61bc6649" + "ffff001d" + "01e36299",
			"4860eb18bf1b1620e37e9490fc8a427514416fd75159ab86688e9a8300000000",
		},
	}
}

// headers are the zero header, each field by itself at its greatest value and at one that tells its bytes apart, all fields so but one, and scattered ones.
func headers() []header.Header {
	const ones, order = math.MaxUint32, 0x04030201
	apart := api.Hash(text(32, 1))
	full := header.Header{Version: ones, Prev: filled(255), Root: filled(255), Time: ones, Bits: ones, Nonce: ones}
	l := []header.Header{{}, full}
	for _, set := range []func(h *header.Header, n uint32, x api.Hash){
		func(h *header.Header, n uint32, x api.Hash) { h.Version = n },
		func(h *header.Header, n uint32, x api.Hash) { h.Prev = x },
		func(h *header.Header, n uint32, x api.Hash) { h.Root = x },
		func(h *header.Header, n uint32, x api.Hash) { h.Time = n },
		func(h *header.Header, n uint32, x api.Hash) { h.Bits = n },
		func(h *header.Header, n uint32, x api.Hash) { h.Nonce = n },
	} {
		var greatest, other header.Header
		zero, otherInFull := full, full
		set(&greatest, ones, filled(255))
		set(&other, order, apart)
		set(&zero, 0, api.Hash{})
		set(&otherInFull, order, apart)
		l = append(l, greatest, other, zero, otherInFull)
	}
	for seed := range uint64(64) {
		l = append(l, modelHeader(text(80, seed)))
	}
	return l
}

// wantParse holds Parse against an answer.
func wantParse(t *testing.T, b []byte, want header.Header, e api.Errno) {
	t.Helper()
	if got, err := header.Parse(b); got != want || err != e {
		t.Errorf("Parse of %d bytes %x is %+v, %v, want %+v, %v", len(b), b, got, err, want, e)
	}
}

// wantSeek holds Seek against an answer.
func wantSeek(t *testing.T, h header.Header, tries int, want header.Header, ok bool) {
	t.Helper()
	if got, found := h.Seek(tries); got != want || found != ok {
		t.Errorf("Seek(%d) of %+v is %+v, %v, want %+v, %v", tries, h, got, found, want, ok)
	}
}

// P7.1: the example of the chapter: its bytes, and that of its first two nonces the second one is sufficient.
func TestExample(t *testing.T) {
	h := header.Header{Bits: easy}
	want := make([]byte, 80)
	copy(want[72:], []byte{0xff, 0xff, 0x7f, 0x20})
	if got := h.Bytes(); !bytes.Equal(got, want) {
		t.Errorf("its bytes are %x, want %x", got, want)
	}
	met := h
	met.Nonce = 1
	if h.Meets() || !met.Meets() {
		t.Error("nonce 0 is not sufficient, and 1 is")
	}
	wantSeek(t, h, 1, header.Header{}, false)
	wantSeek(t, h, 2, met, true)
}

// P7.1: a header has 80 bytes.
func TestSize(t *testing.T) {
	if header.Size != 80 {
		t.Errorf("Size is %d", header.Size)
	}
	for _, h := range headers() {
		if got := len(h.Bytes()); got != 80 {
			t.Errorf("%+v has %d bytes", h, got)
		}
	}
}

// P7.1: known headers: bytes and hashes that are written out, and their targets met.
func TestKnown(t *testing.T) {
	for _, k := range known(t) {
		b, err := hex.DecodeString(k.b)
		if err != nil {
			t.Fatal(err)
		}
		if got := k.h.Bytes(); !bytes.Equal(got, b) {
			t.Errorf("the bytes of %+v are %x, want %s", k.h, got, k.b)
		}
		wantParse(t, b, k.h, api.OK)
		if got := k.h.Hash(); got != digits(t, k.hash) {
			t.Errorf("the hash of %+v is %x, want %s", k.h, got, k.hash)
		}
		if !k.h.Meets() {
			t.Errorf("%+v meets its target", k.h)
		}
	}
}

// P7.1: each field by itself has its own bytes, at 0, at its greatest value and least significant byte first, and no others.
func TestPlaces(t *testing.T) {
	apart := api.Hash(text(32, 2))
	for _, c := range []struct {
		name     string
		from     int
		greatest header.Header
		other    header.Header
		bytes    []byte // those of other, from index from on
	}{
		{"Version", 0, header.Header{Version: math.MaxUint32}, header.Header{Version: 0x04030201}, []byte{1, 2, 3, 4}},
		{"Prev", 4, header.Header{Prev: filled(255)}, header.Header{Prev: apart}, apart[:]},
		{"Root", 36, header.Header{Root: filled(255)}, header.Header{Root: apart}, apart[:]},
		{"Time", 68, header.Header{Time: math.MaxUint32}, header.Header{Time: 0x04030201}, []byte{1, 2, 3, 4}},
		{"Bits", 72, header.Header{Bits: math.MaxUint32}, header.Header{Bits: 0x04030201}, []byte{1, 2, 3, 4}},
		{"Nonce", 76, header.Header{Nonce: math.MaxUint32}, header.Header{Nonce: 0x04030201}, []byte{1, 2, 3, 4}},
	} {
		full, part := make([]byte, 80), make([]byte, 80)
		copy(full[c.from:], bytes.Repeat([]byte{255}, len(c.bytes)))
		copy(part[c.from:], c.bytes)
		if got := c.greatest.Bytes(); !bytes.Equal(got, full) {
			t.Errorf("with the greatest %s the bytes are %x, want %x", c.name, got, full)
		}
		if got := c.other.Bytes(); !bytes.Equal(got, part) {
			t.Errorf("with another %s the bytes are %x, want %x", c.name, got, part)
		}
		wantParse(t, full, c.greatest, api.OK)
		wantParse(t, part, c.other, api.OK)
	}
	var zero header.Header
	if got := zero.Bytes(); !bytes.Equal(got, make([]byte, 80)) {
		t.Errorf("the bytes of a zero header are %x", got)
	}
	wantParse(t, make([]byte, 80), zero, api.OK)
}

// P7.1: bytes and hashes of all kinds of headers, by the library.
func TestBytesAndHash(t *testing.T) {
	for _, h := range headers() {
		if got, want := h.Bytes(), modelBytes(h); !bytes.Equal(got, want) {
			t.Errorf("the bytes of %+v are %x, want %x", h, got, want)
		}
		if got, want := h.Hash(), modelHash(h); got != want {
			t.Errorf("the hash of %+v is %x, want %x", h, got, want)
		}
	}
}

// P7.1: fewer than 80 bytes are ErrShort, more are ErrForm, whatever they are; the header is zero then.
func TestParseRefused(t *testing.T) {
	wantParse(t, nil, header.Header{}, api.ErrShort)
	wantParse(t, []byte{}, header.Header{}, api.ErrShort)
	for _, fill := range [][]byte{make([]byte, 400), bytes.Repeat([]byte{255}, 400), text(400, 3)} {
		for n := range 80 {
			wantParse(t, fill[:n], header.Header{}, api.ErrShort)
		}
		wantParse(t, fill[:80], modelHeader(fill), api.OK)
		for n := 81; n <= len(fill); n++ {
			wantParse(t, fill[:n], header.Header{}, api.ErrForm)
		}
	}
	wantParse(t, text(api.MaxMessage, 4), header.Header{}, api.ErrForm)
	for _, h := range headers() {
		b := h.Bytes()
		wantParse(t, b[:79], header.Header{}, api.ErrShort)
		wantParse(t, b[1:], header.Header{}, api.ErrShort)
		wantParse(t, append(b, 0), header.Header{}, api.ErrForm)
	}
}

// P7.2: Parse of Bytes is the header.
func TestParseOfBytes(t *testing.T) {
	for _, h := range headers() {
		wantParse(t, h.Bytes(), h, api.OK)
	}
}

// P7.2: a parsed header has exactly these bytes, and bytes that differ in one bit are another header.
func TestBytesOfParsed(t *testing.T) {
	for seed := range uint64(8) {
		start := text(80, seed)
		first, _ := header.Parse(start)
		for bit := range 8 * 80 {
			b := bytes.Clone(start)
			b[bit/8] ^= 1 << (bit % 8)
			h, e := header.Parse(b)
			if e != api.OK || h == first {
				t.Errorf("with bit %d changed the header is %+v, %v, and was %+v", bit, h, e, first)
			}
			if got := h.Bytes(); !bytes.Equal(got, b) {
				t.Errorf("the bytes of the header of %x are %x", b, got)
			}
			if h.Hash() == first.Hash() {
				t.Errorf("with bit %d changed the hash stays", bit)
			}
		}
	}
}

// P7.1: targets just met and just missed.
func TestMeetsAtTheEdge(t *testing.T) {
	for _, c := range []struct {
		bits, nonce uint32
		hash        string
		meets       bool
	}{
		// Of all nonces of a header of zeros with these bits, those whose hashes come nearest to the target from either side.
		{0x20400000, 157051222, "ee51c84bb55dfa13d31f743169774e3f397a3169735a1b806ae7563dffffff3f", true},
		{0x20400000, 964844947, "c84fd40c9957d2ac580d0cec7d5ba7e0df95fad2abd6f68c227af6b900000040", false},
		{0x207fffff, 837653070, "cbe5ec5301dd7573871ab977848c90ea1f113d99dc447467717e76a8fefeff7f", true},
		{0x207fffff, 3280231664, "7525e8a9b38adf407f71447b24010b6ee198f0789ccead31ebfa849100ffff7f", false},
		// The greatest targets are missed as well, if seldom.
		{0x220000ff, 22, "4c278a496d836dbc692770175017fc59788bc062cc1c3e8050a46308ab84adfe", true},
		{0x220000ff, 303, "ee430cd0a7a1d6f9c15ec4adad5c27d84cbe040baf878295b63f1298a3bae8ff", false},
		{0x2100ffff, 160502, "df61b6e341aaa034f111f10a9e568d0ca02ed4df9c2f5daf678d4821960fffff", false},
		{0x22000001, 654, "51b457b6edc0388d8c3da4a1b49517747ae145088b30474d3bcaa75f9e3afb00", true},
	} {
		h := header.Header{Bits: c.bits, Nonce: c.nonce}
		if got := h.Hash(); got != digits(t, c.hash) {
			t.Errorf("the hash of %+v is %x, want %s", h, got, c.hash)
		}
		if got := h.Meets(); got != c.meets {
			t.Errorf("Meets of %+v is %v, want %v", h, got, c.meets)
		}
	}
}

// withoutTarget are bits that have none: a value of 0, one of more than 256 bits, a sign.
func withoutTarget() []uint32 {
	return []uint32{
		0, 0x007fffff, 0x0100ffff, 0x020000ff, 0x03000000, 0x20000000, 0xff000000,
		0x21010000, 0x217fffff, 0x22000100, 0x23000001, 0x237fffff, 0xff7fffff,
		0x01fe0000, 0x03800001, 0x04923456, 0x20800000, 0x20ffffff, 0x2180ffff, 0x228000ff, 0xff800000, math.MaxUint32,
	}
}

// P7.1: without a target none is met, whatever the hash.
func TestMeetsWithoutTarget(t *testing.T) {
	for _, bits := range withoutTarget() {
		for nonce := range uint32(64) {
			if h := (header.Header{Bits: bits, Nonce: nonce}); h.Meets() {
				t.Errorf("%+v has no target, but meets it", h)
			}
		}
	}
}

// P7.1: Meets as the chapter says it, by whole numbers, for targets of all sizes.
func TestMeetsByWholeNumbers(t *testing.T) {
	met, missed := 0, 0
	for e := range uint32(256) {
		for i, m := range []uint32{0, 1, 0x80, 0xff, 0x100, 0xffff, 0x10000, 0x123456, 0x400000, 0x7fffff, 0x800001, 0xffffff} {
			for j := range uint64(4) {
				h := modelHeader(text(80, uint64(e)<<8|uint64(i)<<4|j))
				h.Bits = e<<24 | m
				want := modelMeets(h)
				if got := h.Meets(); got != want {
					t.Errorf("Meets of %+v is %v, want %v", h, got, want)
				}
				if want {
					met++
				} else {
					missed++
				}
			}
		}
	}
	if met == 0 || missed == 0 {
		t.Errorf("of the headers of the test %d meet their targets and %d do not", met, missed)
	}
}

// P7.1: no tries find nothing, not even where the own nonce is sufficient; it is the first one that is considered.
func TestSeekFewTries(t *testing.T) {
	met := header.Header{Bits: easy, Nonce: 1}
	for _, tries := range []int{0, -1, -2, -65536, math.MinInt32, math.MinInt + 1, math.MinInt} {
		wantSeek(t, met, tries, header.Header{}, false)
	}
	for _, tries := range []int{1, 2, 3, 65535, 65536, 65537, math.MaxInt} {
		wantSeek(t, met, tries, met, true)
	}
	missed := header.Header{Bits: easy}
	for _, tries := range []int{math.MinInt, -1, 0, 1} {
		wantSeek(t, missed, tries, header.Header{}, false)
	}
	for _, tries := range []int{2, 3, 65535, 65536, 65537, math.MaxInt} {
		wantSeek(t, missed, tries, met, true)
	}
}

// P7.1: 65536 nonces are considered at most, however many tries there are.
func TestSeekManyTries(t *testing.T) {
	want := known(t)[0].h
	h := want
	h.Nonce = want.Nonce - 65535
	wantSeek(t, h, 65535, header.Header{}, false)
	wantSeek(t, h, 65536, want, true)
	wantSeek(t, h, math.MaxInt, want, true)
	h.Nonce = want.Nonce - 65536
	for _, tries := range []int{65536, 65537, 1 << 32, math.MaxInt} {
		wantSeek(t, h, tries, header.Header{}, false)
	}
}

// P7.1: the nonce 2^32 - 1 is considered, and followed by 0.
func TestSeekAround(t *testing.T) {
	for _, c := range []struct {
		version, from, found uint32
		tries                int // how many it takes
	}{
		{0, math.MaxUint32, math.MaxUint32, 1},
		{0, math.MaxUint32 - 1, math.MaxUint32, 2},
		{1, math.MaxUint32, 0, 2},
		{5, math.MaxUint32, 1, 3},
		{5, math.MaxUint32 - 2, 1, 5},
		{6, math.MaxUint32 - 2, math.MaxUint32, 3},
	} {
		h := header.Header{Version: c.version, Bits: easy, Nonce: c.from}
		want := h
		want.Nonce = c.found
		wantSeek(t, h, c.tries-1, header.Header{}, false)
		wantSeek(t, h, c.tries, want, true)
		wantSeek(t, h, c.tries+1, want, true)
		wantSeek(t, h, 65536, want, true)
	}
}

// P7.1: bits that no nonce meets, as they have no target or one that is too small: a zero header and false, and an end.
func TestSeekInVain(t *testing.T) {
	full := header.Header{
		Version: math.MaxUint32, Prev: filled(255), Root: filled(255), Time: math.MaxUint32, Nonce: math.MaxUint32,
	}
	for _, bits := range withoutTarget() {
		h := full
		h.Bits = bits
		for _, tries := range []int{-1, 0, 1, 2, 65536, 65537, math.MaxInt} {
			wantSeek(t, h, tries, header.Header{}, false)
		}
	}
	for _, bits := range []uint32{0x01010000, 0x03000001, 0x0a123456} {
		h := full
		h.Bits = bits
		for _, tries := range []int{-1, 0, 1, 2, 1000} {
			wantSeek(t, h, tries, header.Header{}, false)
		}
	}
	full.Bits = 0x03000001
	wantSeek(t, full, math.MaxInt, header.Header{}, false)
}

// P7.1: Seek as the chapter says it: the first nonce of those considered, and nothing but the nonce changed.
func TestSeekByTheModel(t *testing.T) {
	found, missed := 0, 0
	for seed := range uint64(200) {
		h := modelHeader(text(80, seed))
		h.Bits = []uint32{easy, 0x201fffff, 0x2007ffff, 0x2001ffff}[seed%4]
		for _, tries := range []int{-3, 0, 1, 2, 3, 8, 40} {
			want, ok := modelSeek(h, tries)
			wantSeek(t, h, tries, want, ok)
			if ok {
				found++
				if !want.Meets() {
					t.Errorf("%+v was found, but does not meet its target", want)
				}
			} else {
				missed++
			}
		}
	}
	if found == 0 || missed == 0 {
		t.Errorf("of the searches of the test %d find a nonce and %d do not", found, missed)
	}
}

// P7.1: bytes that were handed in are not changed, not even behind them, and not kept.
func TestParseKeepsNothing(t *testing.T) {
	for _, n := range []int{0, 79, 80, 81} {
		room := text(160, 5)
		before := bytes.Clone(room)
		h, _ := header.Parse(room[:n])
		if !bytes.Equal(room, before) {
			t.Errorf("Parse of %d bytes changed them", n)
		}
		kept := h
		clear(room)
		if h != kept {
			t.Errorf("bytes changed after Parse of %d show in the header", n)
		}
	}
	b := text(80, 6)
	want := modelHeader(b)
	h, _ := header.Parse(b)
	clear(b)
	if h != want || !bytes.Equal(h.Bytes(), modelBytes(want)) {
		t.Error("bytes changed after Parse show in the header")
	}
}

// P7.1: bytes that were told are new memory each time: changing or extending them changes neither the header nor others.
func TestBytesShareNothing(t *testing.T) {
	h := modelHeader(text(80, 7))
	want := modelBytes(h)
	first, second := h.Bytes(), h.Bytes()
	for i := range first {
		first[i] ^= 255
	}
	if !bytes.Equal(second, want) || !bytes.Equal(h.Bytes(), want) {
		t.Error("bytes that were told share memory")
	}
	one := append(second, 1)
	two := append(h.Bytes(), 2)
	if one[80] != 1 || two[80] != 2 || !bytes.Equal(h.Bytes(), want) {
		t.Error("bytes that were extended share memory")
	}
	x := h.Hash()
	clear(x[:])
	if h.Hash() != modelHash(h) {
		t.Error("a hash that was told shares memory")
	}
}

// P7.1: no call changes the header on which it is made.
func TestHeaderStays(t *testing.T) {
	for _, start := range headers() {
		h := start
		h.Bytes()
		h.Hash()
		h.Meets()
		h.Seek(3)
		if h != start {
			t.Errorf("%+v became %+v", start, h)
		}
	}
	h := header.Header{Bits: easy}
	p := &h
	if found, _ := p.Seek(2); found.Nonce != 1 || h.Nonce != 0 {
		t.Error("Seek changed the nonce of the header itself")
	}
}
