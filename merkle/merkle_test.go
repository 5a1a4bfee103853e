package merkle_test

import (
	"bytes"
	"crypto/sha256"
	"encoding/hex"
	"math"
	"slices"
	"testing"

	"masthead/api"
	"masthead/merkle"
)

// filled is a hash of one byte, 32 times.
func filled(b byte) api.Hash {
	return api.Hash(bytes.Repeat([]byte{b}, 32))
}

// list is n hashes with bits in all places, all of them different, other ones for each seed.
func list(n int, seed uint64) []api.Hash {
	l := make([]api.Hash, n)
	x := seed*0x9e3779b97f4a7c15 + 1
	for i := range l {
		for j := range l[i] {
			x ^= x << 13
			x ^= x >> 7
			x ^= x << 17
			l[i][j] = byte(x >> 32)
		}
		l[i][0], l[i][1], l[i][2] = byte(i), byte(i>>8), byte(i>>16)
	}
	return l
}

// of is the hashes that stand for the letters of a text; a dot is 32 zero bytes.
func of(letters string) []api.Hash {
	var l []api.Hash
	for _, c := range []byte(letters) {
		if c == '.' {
			c = 0
		}
		l = append(l, filled(c))
	}
	return l
}

// known is the hash of 64 hexadecimal digits, its last byte first, as hashes of blocks are usually shown.
func known(t *testing.T, s string) api.Hash {
	t.Helper()
	x := digits(t, s)
	slices.Reverse(x[:])
	return x
}

// digits is the hash of 64 hexadecimal digits, in the order of its bytes.
func digits(t *testing.T, s string) api.Hash {
	t.Helper()
	b, err := hex.DecodeString(s)
	if err != nil || len(b) != 32 {
		t.Fatalf("%q is no hash", s)
	}
	return api.Hash(b)
}

// two is the double hash of two hashes, by the library.
func two(a, b api.Hash) api.Hash {
	once := sha256.Sum256(append(a[:], b[:]...))
	return sha256.Sum256(once[:])
}

// modelAbove is the level above a list, by the library.
func modelAbove(l []api.Hash) []api.Hash {
	var up []api.Hash
	for pair := range slices.Chunk(l, 2) {
		up = append(up, two(pair[0], pair[len(pair)-1]))
	}
	return up
}

// modelLevels is a list and all levels above it up to that of one hash, by the library.
func modelLevels(l []api.Hash) [][]api.Hash {
	all := [][]api.Hash{l}
	for len(l) > 1 {
		l = modelAbove(l)
		all = append(all, l)
	}
	return all
}

// tree is what is hashed for the node of a list of letters at a place of a level, written with brackets: two nodes have the same hash just if they have the same tree.
func tree(letters string, level, place int) string {
	if level == 0 {
		return letters[place : place+1]
	}
	right := min(2*place+1, width(len(letters), level-1)-1)
	return "(" + tree(letters, level-1, 2*place) + tree(letters, level-1, right) + ")"
}

// width is how many nodes a level has that is so many above a list of n.
func width(n, level int) int {
	return (n + 1<<level - 1) >> level
}

// modelDoubled is what the chapter says of a doubled list, by trees instead of hashes.
func modelDoubled(letters string) bool {
	for level := 0; width(len(letters), level) > 1; level++ {
		for place := 1; place < width(len(letters), level); place += 2 {
			if tree(letters, level, place-1) == tree(letters, level, place) {
				return true
			}
		}
	}
	return false
}

// sizes are all small sizes of lists, and those about each power of two up to 2^16.
func sizes() []int {
	var l []int
	for n := range 35 {
		l = append(l, n)
	}
	for k := 6; k <= 10; k++ {
		for d := -3; d <= 3; d++ {
			l = append(l, 1<<k+d)
		}
	}
	return append(l, 1<<16-1, 1<<16, 1<<16+1)
}

func wantRoot(t *testing.T, what string, l []api.Hash, want api.Hash) {
	t.Helper()
	if got := merkle.Root(l); got != want {
		t.Errorf("the root of %s is %x, want %x", what, got, want)
	}
}

func wantAbove(t *testing.T, what string, l, want []api.Hash) {
	t.Helper()
	if got := merkle.Above(l); !slices.Equal(got, want) {
		t.Errorf("the level above %s is %x, want %x", what, got, want)
	}
}

func wantDoubled(t *testing.T, letters string, want bool) {
	t.Helper()
	if got := merkle.Doubled(of(letters)); got != want {
		t.Errorf("Doubled of %q is %v, want %v", letters, got, want)
	}
}

// P8.1: the examples of the chapter.
func TestExamples(t *testing.T) {
	if d := merkle.Depth(5); d != 3 {
		t.Errorf("Depth(5) is %d, want 3", d)
	}
	a, b, c := filled('a'), filled('b'), filled('c')
	want := two(two(a, b), two(c, c))
	wantRoot(t, "a, b, c", []api.Hash{a, b, c}, want)
	wantRoot(t, "a, b, c, c", []api.Hash{a, b, c, c}, want)
	wantDoubled(t, "abcc", true)
	wantDoubled(t, "abc", false)
}

// P8.1: the roots of three blocks of 2009 and 2010, of one, two and four transactions.
func TestKnownRoots(t *testing.T) {
	for _, c := range []struct {
		root string
		list []string
	}{
		{
			"4a5e1e4baab89f3a32518a88c31bc87f618f76673e2cc77ab2127b7afdeda33b",
			[]string{"4a5e1e4baab89f3a32518a88c31bc87f618f76673e2cc77ab2127b7afdeda33b"},
		},
		{
			"7dac2c5666815c17a3b36427de37bb9d2e2c5ccec3f8633eb91a4205cb4c10ff",
			[]string{
				"b1fea52486ce0c62bb442b530a3f0132b826c74e473d1f2c220bfa78111c5082",
				"f4184fc596403b9d638783cf57adfe4c75c605f6356fbc91338530e9831e9e16",
			},
		},
		{
			"f3e94742aca4b5ef85488dc37c06c3282295ffec960994b2c0d5ac2a25a95766",
			[]string{
				"8c14f0db3df150123e6f3dbbf30f8b955a8249b62ac1d1ff16284aefa3d06d87",
				"fff2525b8931402dd09222c50775608f75787bd2b87e56995a7bdd30f79702c4",
				"6359f0868171b1d194cbee1af2f16ea598ae8fad666d9b012c8ed2b79a236ec4",
				"e9a66845e05d5abc0ad04ec80f774a7e585c6e8db975962d069a522137b80c1d",
			},
		},
	} {
		var l []api.Hash
		for _, s := range c.list {
			l = append(l, known(t, s))
		}
		wantRoot(t, "a known block", l, known(t, c.root))
		if merkle.Doubled(l) {
			t.Errorf("the list of the root %s is doubled", c.root)
		}
	}
}

// P8.1: the roots of lists of none to nine hashes, written out; the hash at index i is the byte i + 1, 32 times.
func TestRootsOfFew(t *testing.T) {
	for n, want := range []string{
		"0000000000000000000000000000000000000000000000000000000000000000",
		"0101010101010101010101010101010101010101010101010101010101010101",
		"39ce20bede82c96b8908bec4a157b09c549b3db90b9b474bda9ae9b9030310b4",
		"223e023fadf1f053df26988871f893c821c28edf77d64a955e6c2a02d547bdac",
		"085aabaef98668701b87c9a1986bdf116726a9949802326b69895697d4e8c812",
		"26e2870f72368b3f8baef83fa26282d95d9c194e1f33d90a12932e0f6022e5d3",
		"7b66d521a8037fd37d8730a5a77b304c0994bf45fc6e225cb79073f087cf97e9",
		"5cda317f9f94e784d7811b9b9884f3082f0baafc8a93a7db6f95f57ea52e9269",
		"c1105948cfffba7d4dcf98de63a5eb1e4bd9c0ae1ff9dfcf0f34b9ad7eb758fc",
		"1f2f2e534f6bc8f6460fdf5bee838579e9d9d61e4ccbbc07f486cbf0c908c7a1",
	} {
		var l []api.Hash
		for i := range n {
			l = append(l, filled(byte(i+1)))
		}
		wantRoot(t, "few hashes", l, digits(t, want))
	}
}

// P8.1: no hashes, as nil and as an empty list.
func TestNone(t *testing.T) {
	for _, l := range [][]api.Hash{nil, {}, make([]api.Hash, 0, 4), list(4, 1)[:0]} {
		wantAbove(t, "no hashes", l, nil)
		wantRoot(t, "no hashes", l, api.Hash{})
		if merkle.Doubled(l) {
			t.Error("an empty list is doubled")
		}
	}
}

// P8.1: one hash is its own root, and has a level above it: that hash paired with itself.
func TestOne(t *testing.T) {
	for _, a := range []api.Hash{{}, filled('a'), filled(255), {0: 1}, {31: 1}} {
		l := []api.Hash{a}
		wantAbove(t, "one hash", l, []api.Hash{two(a, a)})
		wantRoot(t, "one hash", l, a)
		if merkle.Doubled(l) {
			t.Errorf("the single hash %x is doubled", a)
		}
	}
}

// P8.1: levels of few hashes, each pair in its order, a single last hash paired with itself.
func TestAboveFew(t *testing.T) {
	a, b, c, d, e := filled('a'), filled('b'), filled('c'), filled('d'), filled('e')
	wantAbove(t, "two", []api.Hash{a, b}, []api.Hash{two(a, b)})
	wantAbove(t, "two in the other order", []api.Hash{b, a}, []api.Hash{two(b, a)})
	wantAbove(t, "two same ones", []api.Hash{a, a}, []api.Hash{two(a, a)})
	wantAbove(t, "three", []api.Hash{a, b, c}, []api.Hash{two(a, b), two(c, c)})
	wantAbove(t, "four", []api.Hash{a, b, c, d}, []api.Hash{two(a, b), two(c, d)})
	wantAbove(t, "five", []api.Hash{a, b, c, d, e}, []api.Hash{two(a, b), two(c, d), two(e, e)})
}

// P8.1: the root of lists whose last hash is single in the list, in a level above it, or in both, bracket by bracket.
func TestSingleLast(t *testing.T) {
	l := list(10, 2)
	a, b, c, d, e, f, g := l[0], l[1], l[2], l[3], l[4], l[5], l[6]
	first, second := two(two(a, b), two(c, d)), two(two(e, f), two(g, g))
	wantRoot(t, "three", l[:3], two(two(a, b), two(c, c)))
	wantRoot(t, "five", l[:5], two(first, two(two(e, e), two(e, e))))
	wantRoot(t, "six", l[:6], two(first, two(two(e, f), two(e, f))))
	wantRoot(t, "seven", l[:7], two(first, second))
	second = two(two(e, f), two(g, l[7]))
	third := two(two(l[8], l[8]), two(l[8], l[8]))
	wantRoot(t, "nine", l[:9], two(two(first, second), two(third, third)))
	third = two(two(l[8], l[9]), two(l[8], l[9]))
	wantRoot(t, "ten", l, two(two(first, second), two(third, third)))
}

// P8.1: Above, Root, Depth and Doubled of lists of many sizes, level by level against the library.
func TestSizes(t *testing.T) {
	for _, n := range sizes() {
		l := list(n, uint64(n))
		all := modelLevels(l)
		for i, level := range all[1:] {
			if !slices.Equal(merkle.Above(all[i]), level) {
				t.Errorf("of %d hashes, the level %d above is not that of the chapter", n, i+1)
			}
		}
		var want api.Hash
		if n > 0 {
			want = all[len(all)-1][0]
		}
		if merkle.Root(l) != want {
			t.Errorf("of %d hashes, the root is not that of the chapter", n)
		}
		if d := merkle.Depth(n); d != len(all)-1 {
			t.Errorf("Depth(%d) is %d, but there are %d levels above", n, d, len(all)-1)
		}
		if merkle.Doubled(l) {
			t.Errorf("%d different hashes are doubled", n)
		}
	}
}

// P8.1: no two hashes may change places without another root, nor without another level above.
func TestOrder(t *testing.T) {
	for n := 2; n <= 17; n++ {
		l := list(n, 3)
		root, above := merkle.Root(l), merkle.Above(l)
		for i := range n {
			for j := range i {
				l[i], l[j] = l[j], l[i]
				up := merkle.Above(l)
				if merkle.Root(l) == root || slices.Equal(up, above) {
					t.Errorf("of %d hashes, %d and %d change places and nothing else changes", n, j, i)
				}
				for k := range up {
					if same := k != i/2 && k != j/2; same != (up[k] == above[k]) {
						t.Errorf("of %d hashes, %d and %d change places: the hash %d above is wrong", n, j, i, k)
					}
				}
				l[i], l[j] = l[j], l[i]
			}
		}
	}
}

// P8.1: each bit of each hash changes the root, and just the one hash above.
func TestEachBitCounts(t *testing.T) {
	l := list(5, 4)
	root, above := merkle.Root(l), merkle.Above(l)
	for i := range l {
		for bit := range 256 {
			l[i][bit/8] ^= 1 << (bit % 8)
			if merkle.Root(l) == root {
				t.Errorf("the bit %d of the hash %d does not count", bit, i)
			}
			for k, x := range merkle.Above(l) {
				if (x == above[k]) != (k != i/2) {
					t.Errorf("the bit %d of the hash %d: the hash %d above is wrong", bit, i, k)
				}
			}
			l[i][bit/8] ^= 1 << (bit % 8)
		}
	}
}

// P8.1: the depth of few, of none, and of negative numbers.
func TestDepthFew(t *testing.T) {
	for n, want := range map[int]int{
		math.MinInt: 0, math.MinInt + 1: 0, math.MinInt32: 0, -65536: 0, -3: 0, -2: 0, -1: 0,
		0: 0, 1: 0, 2: 1, 3: 2, 4: 2, 5: 3, 6: 3, 7: 3, 8: 3, 9: 4, 15: 4, 16: 4, 17: 5, 32: 5, 33: 6,
		1000: 10, 65535: 16, 65536: 16, 65537: 17, math.MaxInt32: 31, math.MaxInt32 + 1: 31, math.MaxInt32 + 2: 32,
		math.MaxInt - 1: 63, math.MaxInt: 63,
	} {
		if got := merkle.Depth(n); got != want {
			t.Errorf("Depth(%d) is %d, want %d", n, got, want)
		}
	}
}

// P8.1: the depth of each power of two, of one less and of one more.
func TestDepthAboutPowers(t *testing.T) {
	for k := 2; k <= 62; k++ {
		n := 1 << k
		for d, want := range map[int]int{-1: k, 0: k, 1: k + 1} {
			if got := merkle.Depth(n + d); got != want {
				t.Errorf("Depth(2^%d%+d) is %d, want %d", k, d, got, want)
			}
		}
	}
}

// P8.1: the depth is the least number of levels, each twice as wide, that holds so many.
func TestDepthOfAllSmall(t *testing.T) {
	want := 0
	for n := range 70000 {
		if n > 1<<want {
			want++
		}
		if got := merkle.Depth(n); got != want {
			t.Fatalf("Depth(%d) is %d, want %d", n, got, want)
		}
	}
}

// P8.1: lists that are doubled, in themselves or only in a level above, at each place.
func TestDoubled(t *testing.T) {
	for _, letters := range []string{
		"aa", "..", "aaa", "aab", "aaaa", "aabc", "abcc", "aabcd", "abccd", "cabbd", "aabcde", "abccde", "abcdee", // in the list itself
		"abab", ".a.a", "a.a.", "ababc", "ababcd", "ababcdef", "abcdefef", "efabcdcd", // in the next level
		"abcdabcd", "abcdabcdef", "abcdabcdefgh", "efghijklabcdabcd", // two levels above
		"abcdefghabcdefgh", "abcdefghabcdefghi", // three levels above
		"abcdeded", "abcdecec", "abbaabba", "abbcabbc", // beside what is not
	} {
		wantDoubled(t, letters, true)
	}
}

// P8.1: lists that are not doubled, though they have same hashes: these lie in two pairs, or a single last one is paired with itself.
func TestNotDoubled(t *testing.T) {
	for _, letters := range []string{
		"", "a", ".", "ab", "ba", "a.", ".a", "abc", "ab.", ".ab", // few
		"abb", "abbc", "abba", "a..b", "abbcd", "abbcca", "abbccdda", // beside one another, but in two pairs
		"aba", "abca", "abcb", "acbc", "cabad", "abaca", "abacad", // further apart
		"abcde", "abcdef", "abcdefg", "abcdefghi", "abcdefghij", "abcdefghijk", "abcdefghijklm", // a single last one, here or above
		"abcdcd", "abcdcdef", "abcdcdab", "abcdefghefgh", "abcdefghefghabcd", // the same above, but in two pairs
		"abcda", "abcdab", "abcdabc", "cdabcde", // the same above, but further apart
	} {
		wantDoubled(t, letters, false)
	}
}

// P8.1: one pair of the same hash is found at each place of a long list, and the same two hashes in two pairs are none.
func TestDoubledAtEachPlace(t *testing.T) {
	for _, n := range []int{2, 3, 4, 5, 6, 7, 8, 9, 16, 17, 33} {
		for i := 1; i < n; i++ {
			l := list(n, 5)
			l[i] = l[i-1]
			if got := merkle.Doubled(l); got != (i%2 == 1) {
				t.Errorf("of %d hashes, %d is that of %d: Doubled is %v", n, i, i-1, got)
			}
		}
	}
}

// P8.1: two halves that are the same are found as far above as they meet, and not where they lie in two pairs.
func TestDoubledAtEachLevel(t *testing.T) {
	for size := 1; size <= 64; size *= 2 {
		for n := 2 * size; n <= 4*size; n++ {
			l := list(n, 6)
			copy(l[size:], l[:size])
			if !merkle.Doubled(l) {
				t.Errorf("of %d hashes, the first %d are there twice: not doubled", n, size)
			}
			if n < 3*size {
				continue
			}
			l = list(n, 7)
			copy(l[2*size:3*size], l[size:2*size])
			if merkle.Doubled(l) {
				t.Errorf("of %d hashes, the second %d are the third: doubled", n, size)
			}
		}
	}
}

// P8.1: hashes that differ in one bit are not the same.
func TestDoubledByAllBits(t *testing.T) {
	for bit := range 256 {
		l := list(4, 8)
		l[3] = l[2]
		l[3][bit/8] ^= 1 << (bit % 8)
		if merkle.Doubled(l) {
			t.Errorf("hashes that differ in the bit %d are taken for the same", bit)
		}
		l[3] = l[2]
		if !merkle.Doubled(l) {
			t.Error("the same hashes are taken for others")
		}
	}
}

// eachText calls f with every text of so many letters from an alphabet.
func eachText(alphabet string, n int, f func(string)) {
	var more func(string)
	more = func(s string) {
		if len(s) == n {
			f(s)
			return
		}
		for i := range alphabet {
			more(s + alphabet[i:i+1])
		}
	}
	more("")
}

// P8.1: all lists of few different hashes: they are doubled just if two same trees make a pair, and two have the same root just if they have the same tree.
func TestAllShortLists(t *testing.T) {
	most := map[string]int{"a.": 9, "ab.": 6, "abcd.": 4}
	trees := map[api.Hash]string{}
	for alphabet, longest := range most {
		for n := 1; n <= longest; n++ {
			eachText(alphabet, n, func(letters string) {
				wantDoubled(t, letters, modelDoubled(letters))
				root, want := merkle.Root(of(letters)), tree(letters, merkle.Depth(n), 0)
				if before, ok := trees[root]; ok && before != want {
					t.Errorf("the trees %s and %s have the same root", before, want)
				}
				trees[root] = want
			})
		}
	}
	roots := map[string]api.Hash{}
	for root, want := range trees {
		if _, ok := roots[want]; ok {
			t.Errorf("the tree %s has two roots", want)
		}
		roots[want] = root
	}
}

// P8.2: a list of an odd number, with its last hash once more, has the same root and is doubled; a list of one is doubled, but has another root.
func TestLastOnceMore(t *testing.T) {
	for _, n := range sizes() {
		if n%2 == 0 {
			continue
		}
		l := list(n, 9)
		longer := append(slices.Clone(l), l[n-1])
		if same := merkle.Root(l) == merkle.Root(longer); same != (n > 1) {
			t.Errorf("%d hashes and their last once more: the same root is %v", n, same)
		}
		if !merkle.Doubled(longer) {
			t.Errorf("%d hashes and their last once more are not doubled", n)
		}
		if merkle.Depth(n) != merkle.Depth(n+1) && n > 1 {
			t.Errorf("the depths of %d and of one more are not the same", n)
		}
	}
	a := filled('a')
	wantRoot(t, "a", []api.Hash{a}, a)
	wantRoot(t, "a, a", []api.Hash{a, a}, two(a, a))
}

// P8.2: the same for lists with same hashes, which may be doubled already.
func TestLastOnceMoreOfAll(t *testing.T) {
	for _, n := range []int{1, 3, 5, 7} {
		eachText("ab.", n, func(letters string) {
			longer := letters + letters[n-1:]
			wantDoubled(t, longer, true)
			if same := merkle.Root(of(letters)) == merkle.Root(of(longer)); same != (n > 1) {
				t.Errorf("%q and %q: the same root is %v", letters, longer, same)
			}
		})
	}
}

// P8.1: a list of an even number, with its last hash once more, has another root, and is doubled no more than it was.
func TestLastOnceMoreOfEven(t *testing.T) {
	for n := 2; n <= 40; n += 2 {
		l := list(n, 10)
		longer := append(slices.Clone(l), l[n-1])
		if merkle.Root(l) == merkle.Root(longer) {
			t.Errorf("%d hashes and their last once more have the same root", n)
		}
		if merkle.Doubled(longer) {
			t.Errorf("%d hashes and their last once more are doubled", n)
		}
	}
}

// P8.1: where a level above has an odd number, the hashes under its last one, once more, give the same root, and are doubled.
func TestLastOfLevelOnceMore(t *testing.T) {
	for size := 1; size <= 16; size *= 2 {
		for n := 3 * size; n <= 15*size; n += 2 * size {
			l := list(n, 11)
			longer := append(slices.Clone(l), l[n-size:]...)
			if merkle.Root(l) != merkle.Root(longer) {
				t.Errorf("%d hashes and their last %d once more have two roots", n, size)
			}
			if merkle.Doubled(l) || !merkle.Doubled(longer) {
				t.Errorf("of %d hashes and their last %d once more, not just the second is doubled", n, size)
			}
		}
	}
}

// P8.1: hashes that were handed in are not changed, not even behind them.
func TestListStays(t *testing.T) {
	for n := range 20 {
		room := list(40, 12)
		before := slices.Clone(room)
		merkle.Above(room[:n])
		merkle.Root(room[:n])
		merkle.Doubled(room[:n])
		if !slices.Equal(room, before) {
			t.Errorf("a list of %d hashes was changed, or what lies behind it", n)
		}
	}
}

// P8.1: hashes that were told are new memory each time: what is changed afterwards, in them or in the list, shows nowhere else.
func TestLevelsShareNothing(t *testing.T) {
	for n := 1; n < 20; n++ {
		l := list(n, 13)
		before := slices.Clone(l)
		want := modelAbove(l)
		first, second := merkle.Above(l), merkle.Above(l)
		clear(first)
		if !slices.Equal(second, want) || !slices.Equal(l, before) {
			t.Errorf("of %d hashes, the level above shares memory", n)
		}
		one, other := append(second, filled(1)), append(merkle.Above(l), filled(2))
		if one[len(want)] != filled(1) || other[len(want)] != filled(2) || !slices.Equal(l, before) {
			t.Errorf("of %d hashes, levels above that were extended share memory", n)
		}
		clear(l)
		if !slices.Equal(second, want) {
			t.Errorf("of %d hashes, a list changed afterwards shows in the level above", n)
		}
	}
}

// P8.1: a root is a value of its own, and no answer hangs on an earlier list.
func TestNothingIsKept(t *testing.T) {
	l := list(1, 14)
	root := merkle.Root(l)
	l[0][0] ^= 255
	if root == merkle.Root(l) || merkle.Root(l) != l[0] {
		t.Error("the root of one hash is kept, or shares memory with it")
	}
	l = list(6, 15)
	l[3] = l[2]
	doubled, first := merkle.Doubled(l), merkle.Root(l)
	l[3][31] ^= 1
	if !doubled || merkle.Doubled(l) || merkle.Root(l) == first {
		t.Error("a list that was changed is answered as it was before")
	}
	l[3] = l[2]
	if !merkle.Doubled(l) || merkle.Root(l) != first {
		t.Error("a list that was changed back is not answered as it was before")
	}
}
