package clash_test

import (
	"bytes"
	"crypto/sha256"
	"encoding/hex"
	"math"
	"slices"
	"strings"
	"testing"

	"masthead/api"
	"masthead/branch"
	"masthead/clash"
	"masthead/merkle"
)

// The double hashes of a few texts and of nodes above them, written out.
const (
	hashA     = "bf5d3affb73efd2ec6c36ad3112dd933efed63c4e1cbffcfa88e2759c144f2d8" // of "a"
	hashBB    = "b5b8f3211e72d2f6ee59b2b1be874fa6e5516d9924691576a08e5a62801c05dc" // of "bb"
	hashCCC   = "a9d05113e50e9504efccc4829ce43ab29453c8838453941d2c2c84d02c46a3df" // of "ccc"
	hashD     = "a359d53a36eac2ca9898dd86638939923bdfb0cf593b5113893a6ed13899d349" // of "dddd"
	hashE     = "72e6d5f9596d57db08d4bec636ad3a3922f3460dd3dc3843106260bffb2956ce" // of "eeeee"
	hashEmpty = "5df6e0e2761359d30a8275058e299fcc0381534545f55cf43e41983f5d4c9456" // of ""
	nodeAB    = "9332e315058a8837042bcd0d116d7b119f98bd0799e7063848b7db8e408af6a0" // of the hashes of "a", "bb"
	nodeCC    = "0a17d79590474b5bbae693cd900e5128828aa3596eabf0c1273e9bb8334bf061" // of that of "ccc", twice
	nodeCD    = "4df3122bd053026d700b8b7d64e4c1d5bb4b685046bb4a0ae490e5592b27048b" // of those of "ccc", "dddd"
	nodeEE    = "e53b4eb69aba5a07b68aaf0e07929a3358af6c047de0e37ad425444eb0dfed24" // of that of "eeeee", twice
	nodeABCD  = "a4aadee0be8fd6911f5be2fcd0d165e85d4493803becc8803ff6336b9c0af47b" // of nodeAB, nodeCD
	nodeEEEE  = "abf26461598dca4ab6f011b52de11511f65e4a50baa598f51258656709e636fd" // of nodeEE, twice
)

// of is the texts between the commas of a text.
func of(s string) [][]byte {
	var l [][]byte
	for _, text := range strings.Split(s, ",") {
		l = append(l, []byte(text))
	}
	return l
}

// digits is the bytes of hexadecimal digits.
func digits(t *testing.T, s string) []byte {
	t.Helper()
	b, err := hex.DecodeString(s)
	if err != nil {
		t.Fatalf("%q is not hexadecimal", s)
	}
	return b
}

// many is n different texts of many lengths, the first one empty, none of them of 64 bytes; other ones for each seed, but for the empty one.
func many(n int, seed uint64) [][]byte {
	l := make([][]byte, n)
	x := seed*0x9e3779b97f4a7c15 + 1
	for i := 1; i < n; i++ {
		length := 2 + (i*29+int(seed))%140
		if length == 64 {
			length = 141
		}
		for range length {
			x ^= x << 13
			x ^= x >> 7
			x ^= x << 17
			l[i] = append(l[i], byte(x>>32))
		}
		l[i][0], l[i][1] = byte(i), byte(i>>8)
	}
	return l
}

// twice is the double hash of a text: by the library, or the weak one where the tests run with that.
func twice(text []byte) api.Hash {
	if *weak {
		return weakTwice(text)
	}
	once := sha256.Sum256(text)
	return sha256.Sum256(once[:])
}

// hashes is the double hashes of the texts of a list.
func hashes(l [][]byte) []api.Hash {
	var all []api.Hash
	for _, text := range l {
		all = append(all, twice(text))
	}
	return all
}

// modelTexts is what the chapter says of Texts: each level as the texts whose hashes are its nodes.
func modelTexts(l [][]byte) [][]byte {
	all := slices.Clone(l)
	for level := l; len(level) > 1; {
		var up [][]byte
		for pair := range slices.Chunk(level, 2) {
			left, right := twice(pair[0]), twice(pair[len(pair)-1])
			up = append(up, slices.Concat(left[:], right[:]))
		}
		all = append(all, up...)
		level = up
	}
	return all
}

// modelRight is what the chapter of layer 9 says of Right.
func modelRight(b branch.Branch) bool {
	depth := 0
	for 1<<depth < b.Count && depth < 17 {
		depth++
	}
	return b.Count >= 1 && b.Count <= 65536 && b.Index >= 0 && b.Index < b.Count && len(b.Path) == depth
}

// modelClaim is what the chapter says of Claim.
func modelClaim(text []byte, b branch.Branch) [][]byte {
	if !modelRight(b) {
		return nil
	}
	all := [][]byte{text}
	for k, side := range b.Path {
		node := twice(all[k])
		both := [][]byte{node[:], side[:]}
		if b.Index>>k%2 == 1 {
			slices.Reverse(both)
		}
		all = append(all, bytes.Join(both, nil))
	}
	return all
}

// modelExtract is what the chapter says of Extract: each text of the claim beside each one of the list.
func modelExtract(l [][]byte, text []byte, b branch.Branch) ([]byte, []byte, bool) {
	there := modelTexts(l)
	all := hashes(there)
	for _, claimed := range modelClaim(text, b) {
		hash := twice(claimed)
		for i, x := range there {
			if all[i] == hash && !bytes.Equal(x, claimed) {
				return claimed, x, true
			}
		}
	}
	return nil, nil, false
}

// made is the branch of a text of a list that has it.
func made(t *testing.T, l [][]byte, i int) branch.Branch {
	t.Helper()
	b, e := branch.Make(hashes(l), i)
	if e != api.OK {
		t.Fatalf("Make of %d hashes and the index %d is %d, want 0", len(l), i, e)
	}
	return b
}

// sameTexts reports whether two lists have the same texts in the same order.
func sameTexts(a, b [][]byte) bool {
	return slices.EqualFunc(a, b, bytes.Equal)
}

// cloned is the same texts in memory of their own.
func cloned(l [][]byte) [][]byte {
	out := make([][]byte, len(l))
	for i, text := range l {
		out[i] = bytes.Clone(text)
	}
	return out
}

func wantTexts(t *testing.T, what string, l, want [][]byte) {
	t.Helper()
	if got := clash.Texts(l); !sameTexts(got, want) {
		t.Errorf("the texts of %s are %x, want %x", what, got, want)
	}
}

func wantClaim(t *testing.T, text []byte, b branch.Branch, want [][]byte) {
	t.Helper()
	if got := clash.Claim(text, b); !sameTexts(got, want) {
		t.Errorf("the claim of %x, the count %d, the index %d and %d hashes has the texts %x, want %x",
			text, b.Count, b.Index, len(b.Path), got, want)
	}
}

// wantNothing asks Extract where there is no clash.
func wantNothing(t *testing.T, l [][]byte, text []byte, b branch.Branch) {
	t.Helper()
	if x, y, ok := clash.Extract(l, text, b); ok || len(x) != 0 || len(y) != 0 {
		t.Errorf("of %d texts, the claim of %x, the count %d, the index %d and %d hashes has the clash %x, %x, %v",
			len(l), text, b.Count, b.Index, len(b.Path), x, y, ok)
	}
}

// wantExtract asks Extract for what the chapter says, and reports whether that is a clash.
func wantExtract(t *testing.T, l [][]byte, text []byte, b branch.Branch) bool {
	t.Helper()
	x, y, ok := clash.Extract(l, text, b)
	claimed, there, want := modelExtract(l, text, b)
	if ok != want || !bytes.Equal(x, claimed) || !bytes.Equal(y, there) {
		t.Errorf("of %q, the claim of %q, the count %d, the index %d and %x has the clash %q, %q, %v, want %q, %q, %v",
			l, text, b.Count, b.Index, b.Path, x, y, ok, claimed, there, want)
	}
	return want
}

// isAt reports whether a text is in a list at an index.
func isAt(l [][]byte, text []byte, i int) bool {
	return i >= 0 && i < len(l) && bytes.Equal(l[i], text)
}

// wantPromise asks for P10.2, where Check accepts a branch: the text is there, or there are two different texts of the same hash. It reports whether Check accepts it.
func wantPromise(t *testing.T, l [][]byte, text []byte, b branch.Branch) bool {
	t.Helper()
	if b.Check(merkle.Root(hashes(l)), twice(text)) != api.OK {
		return false
	}
	x, y, ok := clash.Extract(l, text, b)
	if !ok && !isAt(l, text, b.Index) {
		t.Errorf("of %q, Check accepts %q with the count %d, the index %d and %x: it is not there, and nothing clashes",
			l, text, b.Count, b.Index, b.Path)
	}
	if ok && (bytes.Equal(x, y) || twice(x) != twice(y)) {
		t.Errorf("%x and %x are no clash", x, y)
	}
	return true
}

// P10.1: the example of the chapter.
func TestExample(t *testing.T) {
	for _, l := range [][][]byte{of("a"), of(""), many(2, 1)[1:]} {
		wantTexts(t, "one text", l, l)
		wantClaim(t, l[0], branch.Branch{Count: 1}, l)
		wantNothing(t, l, l[0], branch.Branch{Count: 1})
	}
}

// P10.1: no texts have no texts.
func TestTextsOfNone(t *testing.T) {
	for _, l := range [][][]byte{nil, {}, of("a,b")[:0]} {
		wantTexts(t, "no texts", l, nil)
		wantNothing(t, l, nil, branch.Branch{})
		wantNothing(t, l, nil, branch.Branch{Count: 1})
		wantNothing(t, l, []byte("a"), branch.Branch{Count: 1})
		wantNothing(t, l, []byte("a"), branch.Branch{Count: 2, Path: make([]api.Hash, 1)})
	}
}

// P10.1: the texts of lists of one to five, written out: the list, then level by level the bytes of each pair, a single last hash beside itself.
func TestTextsWrittenOut(t *testing.T) {
	all := of("a,bb,ccc,dddd,eeeee")
	for n, above := range [][]string{
		{},
		{},
		{hashA + hashBB},
		{hashA + hashBB, hashCCC + hashCCC, nodeAB + nodeCC},
		{hashA + hashBB, hashCCC + hashD, nodeAB + nodeCD},
		{hashA + hashBB, hashCCC + hashD, hashE + hashE, nodeAB + nodeCD, nodeEE + nodeEE, nodeABCD + nodeEEEE},
	} {
		want := slices.Clone(all[:n])
		for _, s := range above {
			want = append(want, digits(t, s))
		}
		wantTexts(t, "the first few of five", all[:n], want)
	}
	wantTexts(t, "an empty text alone", of(""), of(""))
	wantTexts(t, "two texts in the other order", of("bb,a"), append(of("bb,a"), digits(t, hashBB+hashA)))
	wantTexts(t, "a text and an empty one", of("a,"), append(of("a,"), digits(t, hashA+hashEmpty)))
	wantTexts(t, "an empty text and a text", of(",a"), append(of(",a"), digits(t, hashEmpty+hashA)))
	wantTexts(t, "a text twice", of("a,a"), append(of("a,a"), digits(t, hashA+hashA)))
	wantTexts(t, "nil twice", make([][]byte, 2), append(of(","), digits(t, hashEmpty+hashEmpty)))
}

// sizes are those of small lists, with even and odd numbers at each level, and those about powers of two.
func sizes() []int {
	var l []int
	for n := range 40 {
		l = append(l, n)
	}
	return append(l, 63, 64, 65, 95, 96, 97, 127, 128, 129, 255, 256, 257, 1000, 1023, 1024, 1025)
}

// P10.1: the texts of lists of many sizes; the hash of the last one is the root, and each level has as many as layer 8 says.
func TestTextsOfManySizes(t *testing.T) {
	for _, n := range sizes() {
		l := many(n, uint64(n))
		got := clash.Texts(l)
		if !sameTexts(got, modelTexts(l)) {
			t.Errorf("of %d texts, the texts are not those of the chapter", n)
		}
		if n > 0 && twice(got[len(got)-1]) != merkle.Root(hashes(l)) {
			t.Errorf("of %d texts, the last one does not have the hash of the root", n)
		}
		rest := got[min(n, len(got)):]
		for level := hashes(l); len(level) > 1; {
			level = merkle.Above(level)
			if len(rest) < len(level) || !slices.Equal(hashes(rest[:len(level)]), level) {
				t.Fatalf("of %d texts, a level of %d nodes does not have their texts", n, len(level))
			}
			rest = rest[len(level):]
		}
		if len(rest) != 0 {
			t.Errorf("of %d texts, there are %d too many", n, len(rest))
		}
	}
}

// eachText calls f with every text of so many letters from an alphabet.
func eachText(alphabet string, n int, f func(string)) {
	var more func(string)
	more = func(s string) {
		if len(s) == n {
			f(s)
			return
		}
		for i := range alphabet {
			more(s + alphabet[i:i+1])
		}
	}
	more("")
}

// P10.1: all short lists of few different texts, an empty one among them: each text is there as often as in the list, and none clashes.
func TestTextsOfSameTexts(t *testing.T) {
	for n := 1; n <= 6; n++ {
		eachText("ab.", n, func(letters string) {
			var l [][]byte
			for _, c := range letters {
				l = append(l, []byte(strings.Trim(string(c), ".")))
			}
			wantTexts(t, letters, l, modelTexts(l))
			for i, text := range l {
				b := made(t, l, i)
				wantClaim(t, text, b, modelClaim(text, b))
				wantNothing(t, l, text, b)
				wantPromise(t, l, text, b)
			}
		})
	}
}

// P10.1: texts of 64 bytes, of many more, and lists of lists' own texts.
func TestTextsOfLongTexts(t *testing.T) {
	long := bytes.Repeat([]byte("0123456789abcdef"), 5000)
	for _, l := range [][][]byte{
		{long[:64]}, {long[:64], long[:64]}, {long[:63], long[:64], long[:65]}, {long, long[1:], nil}, modelTexts(many(5, 2)),
		modelTexts([][]byte{long}), {make([]byte, 64), make([]byte, 32), make([]byte, 65)},
	} {
		wantTexts(t, "long texts", l, modelTexts(l))
		for i, text := range l {
			wantClaim(t, text, made(t, l, i), modelClaim(text, made(t, l, i)))
			wantNothing(t, l, text, made(t, l, i))
		}
	}
}

// P10.1: the claims of the texts of three and five, written out: the text, then going up the bytes of each node and its sibling.
func TestClaimWrittenOut(t *testing.T) {
	three, five := of("a,bb,ccc"), of("a,bb,ccc,dddd,eeeee")
	for _, c := range []struct {
		l     [][]byte
		i     int
		above []string
	}{
		{three[:1], 0, nil},
		{three[:2], 0, []string{hashA + hashBB}},
		{three[:2], 1, []string{hashA + hashBB}},
		{three, 0, []string{hashA + hashBB, nodeAB + nodeCC}},
		{three, 1, []string{hashA + hashBB, nodeAB + nodeCC}},
		{three, 2, []string{hashCCC + hashCCC, nodeAB + nodeCC}},
		{five, 1, []string{hashA + hashBB, nodeAB + nodeCD, nodeABCD + nodeEEEE}},
		{five, 2, []string{hashCCC + hashD, nodeAB + nodeCD, nodeABCD + nodeEEEE}},
		{five, 4, []string{hashE + hashE, nodeEE + nodeEE, nodeABCD + nodeEEEE}},
	} {
		want := [][]byte{c.l[c.i]}
		for _, s := range c.above {
			want = append(want, digits(t, s))
		}
		wantClaim(t, c.l[c.i], made(t, c.l, c.i), want)
	}
}

// P10.1: a branch of one leaf: the claim has the text alone.
func TestClaimOfOneLeaf(t *testing.T) {
	for _, text := range append(many(9, 3), nil, []byte{}, make([]byte, 64), make([]byte, 100000)) {
		for _, path := range [][]api.Hash{nil, {}, make([]api.Hash, 3)[:0]} {
			b := branch.Branch{Count: 1, Path: path}
			wantClaim(t, text, b, [][]byte{text})
			wantNothing(t, [][]byte{text}, text, b)
			wantNothing(t, [][]byte{append(bytes.Clone(text), 0)}, text, b)
		}
	}
}

// P10.1: the claims of all texts of lists of many sizes: the last text has the hash of the root, and the list has each of them.
func TestClaimsOfManySizes(t *testing.T) {
	for n := 1; n <= 40; n++ {
		l := many(n, uint64(n))
		there := modelTexts(l)
		for i, text := range l {
			b := made(t, l, i)
			wantClaim(t, text, b, modelClaim(text, b))
			got := clash.Claim(text, b)
			if twice(got[len(got)-1]) != merkle.Root(hashes(l)) {
				t.Errorf("of %d texts, the claim of %d does not lead to the root", n, i)
			}
			for k, claimed := range got {
				if !slices.ContainsFunc(there, func(x []byte) bool { return bytes.Equal(x, claimed) }) {
					t.Errorf("of %d texts, the text %d of the claim of %d is not one of the list", n, k, i)
				}
			}
		}
	}
}

// P10.1: paths of up to 16 hashes, at indices whose bits go left and right at each level.
func TestClaimsOfLongPaths(t *testing.T) {
	for _, count := range []int{1000, 1024, 1025, 32768, 32769, 65535, 65536} {
		path := hashes(many(merkle.Depth(count), 4))
		for _, index := range []int{0, 1, 2, count / 3, count / 2, 2 * count / 3, count - 2, count - 1} {
			b := branch.Branch{Count: count, Index: index, Path: path}
			for _, text := range of("a,,bb") {
				want := modelClaim(text, b)
				if len(want) != len(path)+1 {
					t.Fatalf("the claim of the count %d has %d texts by the model", count, len(want))
				}
				wantClaim(t, text, b, want)
				wantNothing(t, many(9, 5), text, b)
			}
		}
	}
}

// P10.1: a branch that is not right, in each way that Right tells, has no claim, and there is no clash.
func TestNotRight(t *testing.T) {
	path := hashes(many(17, 6))
	for _, b := range []branch.Branch{
		{},
		{Path: path[:1]},
		{Count: -1}, {Count: -1, Index: -2}, {Count: math.MinInt, Index: math.MinInt}, // counts below 1
		{Count: 65537, Path: path}, {Count: 65537, Path: path[:16]}, {Count: 1 << 32, Path: path}, {Count: 1<<32 + 1}, {Count: math.MaxInt, Path: path}, // counts above MaxLeaves
		{Count: 1, Index: 1}, {Count: 1, Index: -1}, {Count: 2, Index: 2, Path: path[:1]}, {Count: 3, Index: -1, Path: path[:2]}, // indices that are none
		{Count: 4, Index: 4, Path: path[:2]}, {Count: 65536, Index: 65536, Path: path[:16]}, {Count: 2, Index: math.MinInt, Path: path[:1]}, {Count: 2, Index: math.MaxInt, Path: path[:1]},
		{Count: 1, Path: path[:1]}, {Count: 1, Path: path}, // paths that are too long
		{Count: 2, Path: path[:2]}, {Count: 4, Index: 3, Path: path[:3]}, {Count: 65536, Path: path},
		{Count: 2}, {Count: 3, Path: path[:1]}, {Count: 5, Index: 4, Path: path[:2]}, {Count: 65536, Path: path[:15]}, {Count: 32769, Path: path[:15]}, // paths that are too short
	} {
		if b.Right() == api.OK {
			t.Fatalf("the count %d, the index %d and %d hashes are right", b.Count, b.Index, len(b.Path))
		}
		for _, l := range [][][]byte{nil, of("a"), of("a,b"), of(",a"), many(9, 7)} {
			for _, text := range append(slices.Clone(l), nil, []byte("x"), make([]byte, 64)) {
				wantClaim(t, text, b, nil)
				wantNothing(t, l, text, b)
			}
		}
	}
}

// chosen is the path of which each hash is that of its letter, going up from a text.
func chosen(text []byte, p int, letters string) []api.Hash {
	var path []api.Hash
	for _, c := range []byte(letters) {
		node := twice(text)
		x := map[byte]api.Hash{'s': node, 'a': twice([]byte("a")), 'z': {}}[c]
		path = append(path, x)
		text = slices.Concat(node[:], x[:])
		if p%2 == 1 {
			text = slices.Concat(x[:], node[:])
		}
		p /= 2
	}
	return path
}

// P10.1: each branch of few leaves with each path of few hashes, also of wrong numbers; whether the levels are valid does not count.
func TestAllSmallBranches(t *testing.T) {
	text := []byte("text")
	right, valid := 0, 0
	for count := -1; count <= 9; count++ {
		for index := -1; index <= count+1; index++ {
			for n := range 6 {
				eachText("saz", n, func(letters string) { // s: the same hash as the node
					b := branch.Branch{Count: count, Index: index, Path: chosen(text, index, letters)}
					wantClaim(t, text, b, modelClaim(text, b))
					if b.Right() != api.OK {
						return
					}
					right++
					node, e := b.Up(twice(text))
					if e == api.OK {
						valid++
					}
					if got := clash.Claim(text, b); e == api.OK && twice(got[len(got)-1]) != node {
						t.Errorf("the claim of the count %d, the index %d and %q does not lead where Up does", count, index, letters)
					}
				})
			}
		}
	}
	if valid == 0 || valid == right {
		t.Errorf("of %d right branches, the levels of %d are valid", right, valid)
	}
}

// P10.1: levels that are not valid though Right returns OK: a single last node beside another, or another node beside itself.
func TestClaimOfLevelsNotValid(t *testing.T) {
	h := hashes(of("a,bb,ccc"))
	for _, c := range []struct {
		text  string
		b     branch.Branch
		above []string
	}{
		{"a", branch.Branch{Count: 2, Index: 0, Path: h[:1]}, []string{hashA + hashA}},
		{"a", branch.Branch{Count: 2, Index: 1, Path: h[:1]}, []string{hashA + hashA}},
		{"ccc", branch.Branch{Count: 3, Index: 2, Path: []api.Hash{h[1], api.Hash(digits(t, nodeAB))}}, []string{hashCCC + hashBB, ""}},
		{"ccc", branch.Branch{Count: 4, Index: 2, Path: []api.Hash{h[2], api.Hash(digits(t, nodeAB))}}, []string{hashCCC + hashCCC, nodeAB + nodeCC}},
		{"ccc", branch.Branch{Count: 4, Index: 3, Path: []api.Hash{h[2], api.Hash(digits(t, nodeAB))}}, []string{hashCCC + hashCCC, nodeAB + nodeCC}},
	} {
		if _, e := c.b.Up(twice([]byte(c.text))); e != api.ErrProof {
			t.Fatalf("Up of %q is %d, want %d", c.text, e, api.ErrProof)
		}
		want := [][]byte{[]byte(c.text)}
		for _, s := range c.above {
			if s == "" { // its bytes are written out by those of the text before
				node := twice(want[len(want)-1])
				s = nodeAB + hex.EncodeToString(node[:])
			}
			want = append(want, digits(t, s))
		}
		wantClaim(t, []byte(c.text), c.b, want)
		wantNothing(t, of("a,bb,ccc"), []byte(c.text), c.b)
	}
}

// P10.1, P10.2: a branch that Check accepts, of each text of lists of one to nine and more: the text is there, so there is no clash, with whatever other list it is held against.
func TestTrueProofs(t *testing.T) {
	for n := 1; n <= 33; n++ {
		l := many(n, 8)
		for i, text := range l {
			b := made(t, l, i)
			if !wantPromise(t, l, text, b) {
				t.Errorf("of %d texts, the branch at %d is not accepted", n, i)
			}
			for _, other := range [][][]byte{l, nil, l[:n-1], l[1:], many(n, 9), modelTexts(l), {text, text, text}} {
				wantNothing(t, other, text, b)
			}
		}
	}
}

// P10.2: a list that has one text more, its last one once more: its branches are accepted just for the texts of pairs that both lists have, and nothing clashes.
func TestLastOnceMore(t *testing.T) {
	for n := 1; n <= 9; n++ {
		l := many(n, 10)
		longer := append(slices.Clone(l), l[n-1])
		for i, text := range longer {
			b := made(t, longer, i)
			want := n > 1 && n%2 == 1 && i < n-1
			if got := wantPromise(t, l, text, b); got != want {
				t.Errorf("of %d texts, that at %d of one more is accepted: %v, want %v", n, i, got, want)
			}
			wantNothing(t, l, text, b)
			wantNothing(t, longer, text, b)
			if i < n {
				wantNothing(t, longer, text, made(t, l, i))
			}
		}
	}
}

// P10.1: a text of 64 bytes that is an inner node of the list, with a branch that is shorter by one level, is accepted though the list does not have it: it is the same text as the node's, so nothing clashes.
func TestInnerNode(t *testing.T) {
	for n := 2; n <= 20; n++ {
		l := many(n, 11)
		root := merkle.Root(hashes(l))
		inner := modelTexts(l)[n : n+(n+1)/2]
		for i, text := range inner {
			b := made(t, inner, i)
			if e := b.Check(root, twice(text)); e != api.OK || len(b.Path) != merkle.Depth(n)-1 {
				t.Errorf("of %d texts, the inner node %d is not accepted: %d", n, i, e)
			}
			wantNothing(t, l, text, b)
			wantClaim(t, text, b, modelClaim(text, b))
			// and the same the other way: the list has the inner nodes, the claim goes one level deeper
			wantNothing(t, inner, l[2*i], made(t, l, 2*i))
		}
	}
}

// P10.2: claims of texts of the list and of others, with each path of the nodes of the list: what Check accepts is there.
func TestAllClaimsOfShortLists(t *testing.T) {
	for _, s := range []string{"a", "a,b", "a,a", ",a", "a,b,c", "a,b,b", "a,a,b", "a,b,c,d", "a,b,c,c", "a,b,a,b"} {
		l := of(s)
		nodes := slices.Compact(slices.SortedFunc(slices.Values(append(hashes(modelTexts(l)), api.Hash{})), func(a, b api.Hash) int { return bytes.Compare(a[:], b[:]) }))
		letters := string([]byte("0123456789")[:len(nodes)])
		accepted := 0
		for count := 1; count <= 5; count++ {
			for index := range count {
				eachText(letters, merkle.Depth(count), func(choice string) {
					b := branch.Branch{Count: count, Index: index}
					for _, c := range choice {
						b.Path = append(b.Path, nodes[c-'0'])
					}
					for _, text := range of("a,b,c,,x") {
						if wantPromise(t, l, text, b) {
							accepted++
							wantNothing(t, l, text, b)
						}
					}
				})
			}
		}
		if accepted == 0 && !merkle.Doubled(hashes(l)) {
			t.Errorf("of %q, nothing is accepted", s)
		}
	}
}

// P10.1: what was handed in is not changed, not even what lies behind it.
func TestHandedInStays(t *testing.T) {
	room := bytes.Repeat([]byte("abcdefgh"), 100)
	before := bytes.Clone(room)
	l := [][]byte{room[:1], room[8:8], room[16:80], room[96:100:100], room[104:300], room[:1], nil, room[400:401]}
	kept := slices.Clone(l)
	path := hashes(many(20, 12))
	pathBefore := slices.Clone(path)
	for n := range len(l) {
		for count := range 9 {
			for index := range count {
				b := branch.Branch{Count: count, Index: index, Path: path[:merkle.Depth(count)]}
				clash.Texts(l[:n])
				clash.Claim(l[index%len(l)], b)
				clash.Extract(l[:n], l[index%len(l)], b)
			}
		}
	}
	if !bytes.Equal(room, before) || !slices.Equal(path, pathBefore) {
		t.Error("a text or a path was changed, or what lies behind it")
	}
	for i := range l {
		if (l[i] == nil) != (kept[i] == nil) || len(l[i]) != len(kept[i]) || len(l[i]) > 0 && &l[i][0] != &kept[i][0] {
			t.Errorf("the text %d of the list is another one", i)
		}
	}
}

// wantOwnMemory asks for texts that were told twice: what is changed in one of them, or put behind it, shows nowhere else.
func wantOwnMemory(t *testing.T, told func() [][]byte) {
	t.Helper()
	first, second := told(), told()
	want := cloned(second)
	for _, text := range first {
		for i := range text[:cap(text)] {
			text[:cap(text)][i] ^= 255
		}
	}
	_ = append(first[:0], make([][]byte, cap(first))...)
	if !sameTexts(second, want) || !sameTexts(told(), want) {
		t.Error("texts that were told share memory with those told later, or with what was handed in")
	}
	for i, text := range second {
		for j := range text[:cap(text)] {
			text[:cap(text)][j] ^= 255
		}
		for j, other := range second {
			if j != i && !bytes.Equal(other, want[j]) {
				t.Errorf("the texts %d and %d share memory", i, j)
			}
		}
		second[i] = bytes.Clone(want[i])
	}
}

// P10.1: texts that were told are new memory, also where the list has the same one several times.
func TestToldIsNew(t *testing.T) {
	for n := 1; n <= 17; n++ {
		l := many(n, 13)
		l[n-1], l[n/2] = l[0], l[0]
		before := cloned(l)
		wantOwnMemory(t, func() [][]byte { return clash.Texts(l) })
		for i, text := range l {
			b := made(t, l, i)
			path := slices.Clone(b.Path)
			wantOwnMemory(t, func() [][]byte { return clash.Claim(text, b) })
			if !slices.Equal(b.Path, path) {
				t.Errorf("of %d texts, the path at %d shares memory with a claim", n, i)
			}
		}
		if !sameTexts(l, before) {
			t.Errorf("of %d texts, the list shares memory with its texts", n)
		}
	}
}

// P10.1: texts, lists and paths that are changed afterwards show in nothing that was told before, and in what is told next.
func TestChangedAfterwards(t *testing.T) {
	for n := 2; n <= 9; n++ {
		l := many(n, 14)
		text := bytes.Clone(l[1])
		b := made(t, l, 1)
		texts, claim := clash.Texts(l), clash.Claim(text, b)
		wantTextsBefore, wantClaimBefore := cloned(texts), cloned(claim)
		for i := range l[1] {
			l[1][i] ^= 255
		}
		for i := range text {
			text[i] ^= 255
		}
		l[0] = []byte("another")
		clear(b.Path)
		if !sameTexts(texts, wantTextsBefore) || !sameTexts(claim, wantClaimBefore) {
			t.Errorf("of %d texts, what was told before is another one", n)
		}
		wantTexts(t, "a list that was changed", l, modelTexts(l))
		wantClaim(t, text, b, modelClaim(text, b))
		if sameTexts(clash.Texts(l), wantTextsBefore) || sameTexts(clash.Claim(text, b), wantClaimBefore) {
			t.Errorf("of %d texts, what was changed does not show", n)
		}
	}
}
