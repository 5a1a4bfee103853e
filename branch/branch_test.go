package branch_test

import (
	"bytes"
	"crypto/sha256"
	"encoding/hex"
	"math"
	"slices"
	"testing"

	"masthead/api"
	"masthead/branch"
	"masthead/merkle"
)

// filled is a hash of one byte, 32 times.
func filled(b byte) api.Hash {
	return api.Hash(bytes.Repeat([]byte{b}, 32))
}

// list is n hashes with bits in all places, all of them different, other ones for each seed.
func list(n int, seed uint64) []api.Hash {
	l := make([]api.Hash, n)
	x := seed*0x9e3779b97f4a7c15 + 1
	for i := range l {
		for j := range l[i] {
			x ^= x << 13
			x ^= x >> 7
			x ^= x << 17
			l[i][j] = byte(x >> 32)
		}
		l[i][0], l[i][1], l[i][2] = byte(i), byte(i>>8), byte(i>>16)
	}
	return l
}

// of is the hashes that stand for the letters of a text; a dot is 32 zero bytes.
func of(letters string) []api.Hash {
	var l []api.Hash
	for _, c := range []byte(letters) {
		if c == '.' {
			c = 0
		}
		l = append(l, filled(c))
	}
	return l
}

// known is the hash of 64 hexadecimal digits, its last byte first, as hashes of blocks are usually shown.
func known(t *testing.T, s string) api.Hash {
	t.Helper()
	b, err := hex.DecodeString(s)
	if err != nil || len(b) != 32 {
		t.Fatalf("%q is no hash", s)
	}
	slices.Reverse(b)
	return api.Hash(b)
}

// two is the double hash of two hashes, by the library.
func two(a, b api.Hash) api.Hash {
	once := sha256.Sum256(append(a[:], b[:]...))
	return sha256.Sum256(once[:])
}

// width is how many nodes a level has that is so many above a list of n.
func width(n, level int) int {
	return (n + 1<<level - 1) >> level
}

// modelDepth is the least number of levels of which the last one has just one node.
func modelDepth(n int) int {
	depth := 0
	for width(n, depth) > 1 {
		depth++
	}
	return depth
}

// modelLevels is a list and all levels above it up to that of one hash, by the library.
func modelLevels(l []api.Hash) [][]api.Hash {
	all := [][]api.Hash{l}
	for len(l) > 1 {
		var up []api.Hash
		for pair := range slices.Chunk(l, 2) {
			up = append(up, two(pair[0], pair[len(pair)-1]))
		}
		l = up
		all = append(all, l)
	}
	return all
}

// modelPath is the siblings of a leaf, out of the levels of its list.
func modelPath(levels [][]api.Hash, i int) []api.Hash {
	var path []api.Hash
	for k, level := range levels[:len(levels)-1] {
		pair := i >> k &^ 1
		both := level[pair:min(pair+2, len(level))]
		if i>>k == pair {
			path = append(path, both[len(both)-1])
		} else {
			path = append(path, both[0])
		}
	}
	return path
}

// modelRight is what the chapter says of Right.
func modelRight(b branch.Branch) api.Errno {
	switch {
	case b.Count < 1, b.Count > 65536, b.Index < 0, b.Index > b.Count-1:
		return api.ErrRange
	case len(b.Path) != modelDepth(b.Count):
		return api.ErrForm
	}
	return api.OK
}

// modelUp is what the chapter says of Up: each level's nodes are counted from the list on.
func modelUp(b branch.Branch, leaf api.Hash) (api.Hash, api.Errno) {
	if e := modelRight(b); e != api.OK {
		return api.Hash{}, e
	}
	valid := true
	for k, x := range b.Path {
		p, last := b.Index>>k, width(b.Count, k)-1
		if p%2 == 0 {
			valid = valid && (x == leaf) == (p == last)
			leaf = two(leaf, x)
		} else {
			valid = valid && x != leaf
			leaf = two(x, leaf)
		}
	}
	if !valid {
		return api.Hash{}, api.ErrProof
	}
	return leaf, api.OK
}

// eachText calls f with every text of so many letters from an alphabet.
func eachText(alphabet string, n int, f func(string)) {
	var more func(string)
	more = func(s string) {
		if len(s) == n {
			f(s)
			return
		}
		for i := range alphabet {
			more(s + alphabet[i:i+1])
		}
	}
	more("")
}

// made is the branch of a leaf of a list that has it.
func made(t *testing.T, l []api.Hash, i int) branch.Branch {
	t.Helper()
	b, e := branch.Make(l, i)
	if e != api.OK {
		t.Fatalf("Make of %d hashes and the index %d is %d, want 0", len(l), i, e)
	}
	return b
}

// copied is a branch with hashes of its own.
func copied(b branch.Branch) branch.Branch {
	b.Path = slices.Clone(b.Path)
	return b
}

func wantMade(t *testing.T, l []api.Hash, i int, path []api.Hash) {
	t.Helper()
	b := made(t, l, i)
	if b.Count != len(l) || b.Index != i {
		t.Errorf("of %d hashes, the branch at %d has the count %d and the index %d", len(l), i, b.Count, b.Index)
	}
	if !slices.Equal(b.Path, path) {
		t.Errorf("of %d hashes, the branch at %d has the path %x, want %x", len(l), i, b.Path, path)
	}
}

func wantNotMade(t *testing.T, l []api.Hash, i int, want api.Errno) {
	t.Helper()
	b, e := branch.Make(l, i)
	if e != want || b.Count != 0 || b.Index != 0 || len(b.Path) != 0 {
		t.Errorf("Make of %d hashes and the index %d is %d with a branch of %d, %d and %d hashes, want %d and nothing",
			len(l), i, e, b.Count, b.Index, len(b.Path), want)
	}
}

// wantRight asks Right, and where that has an error, Up and Check for the same one.
func wantRight(t *testing.T, b branch.Branch, want api.Errno) {
	t.Helper()
	if e := b.Right(); e != want {
		t.Errorf("Right of the count %d, the index %d and %d hashes is %d, want %d", b.Count, b.Index, len(b.Path), e, want)
	}
	if want == api.OK {
		return
	}
	wantUp(t, b, api.Hash{}, api.Hash{}, want)
	wantUp(t, b, filled('a'), api.Hash{}, want)
	wantCheck(t, b, api.Hash{}, api.Hash{}, want)
	wantCheck(t, b, filled('a'), filled('a'), want)
}

func wantUp(t *testing.T, b branch.Branch, leaf, node api.Hash, want api.Errno) {
	t.Helper()
	if got, e := b.Up(leaf); e != want || got != node {
		t.Errorf("Up of the count %d, the index %d and %d hashes is %x and %d, want %x and %d",
			b.Count, b.Index, len(b.Path), got, e, node, want)
	}
}

func wantCheck(t *testing.T, b branch.Branch, root, leaf api.Hash, want api.Errno) {
	t.Helper()
	if e := b.Check(root, leaf); e != want {
		t.Errorf("Check of the count %d, the index %d and %d hashes is %d, want %d", b.Count, b.Index, len(b.Path), e, want)
	}
}

// wantLeads asks Right, Up and Check of a branch that leads from a leaf to a root.
func wantLeads(t *testing.T, b branch.Branch, root, leaf api.Hash) {
	t.Helper()
	wantRight(t, b, api.OK)
	wantUp(t, b, leaf, root, api.OK)
	wantCheck(t, b, root, leaf, api.OK)
}

// wantFalse asks a branch whose numbers are right and of which a level is not valid: there is no node, and no root is proved, not even that to which it would go.
func wantFalse(t *testing.T, b branch.Branch, leaf api.Hash) {
	t.Helper()
	wantRight(t, b, api.OK)
	wantUp(t, b, leaf, api.Hash{}, api.ErrProof)
	wantCheck(t, b, api.Hash{}, leaf, api.ErrProof)
	node := leaf
	for k, x := range b.Path {
		if b.Index>>k%2 == 0 {
			node = two(node, x)
		} else {
			node = two(x, node)
		}
	}
	wantCheck(t, b, node, leaf, api.ErrProof)
}

// P9.1: the example of the chapter.
func TestExample(t *testing.T) {
	a, b, c := filled('a'), filled('b'), filled('c')
	got := made(t, []api.Hash{a, b, c}, 2)
	if got.Count != 3 || got.Index != 2 || !slices.Equal(got.Path, []api.Hash{c, two(a, b)}) {
		t.Errorf("the branch of c is %d, %d and %x", got.Count, got.Index, got.Path)
	}
	wantLeads(t, got, two(two(a, b), two(c, c)), c)
}

// P9.1, P9.2: the branches of the four transactions of a block of 2010.
func TestKnownBlock(t *testing.T) {
	var l []api.Hash
	for _, s := range []string{
		"8c14f0db3df150123e6f3dbbf30f8b955a8249b62ac1d1ff16284aefa3d06d87",
		"fff2525b8931402dd09222c50775608f75787bd2b87e56995a7bdd30f79702c4",
		"6359f0868171b1d194cbee1af2f16ea598ae8fad666d9b012c8ed2b79a236ec4",
		"e9a66845e05d5abc0ad04ec80f774a7e585c6e8db975962d069a522137b80c1d",
	} {
		l = append(l, known(t, s))
	}
	first := known(t, "ccdafb73d8dcd0173d5d5c3c9a0770d0b3953db889dab99ef05b1907518cb815")
	second := known(t, "8e30899078ca1813be036a073bbf80b86cdddde1c96e9e9c99e9e3782df4ae49")
	root := known(t, "f3e94742aca4b5ef85488dc37c06c3282295ffec960994b2c0d5ac2a25a95766")
	for i, path := range [][]api.Hash{{l[1], second}, {l[0], second}, {l[3], first}, {l[2], first}} {
		wantMade(t, l, i, path)
		wantLeads(t, branch.Branch{Count: 4, Index: i, Path: path}, root, l[i])
	}
}

// P9.1: the paths of each leaf of one to seven hashes, written out.
func TestPathsOfFew(t *testing.T) {
	l := list(7, 1)
	a, b, c, d, e, f, g := l[0], l[1], l[2], l[3], l[4], l[5], l[6]
	ab, cd, ef, cc, ee, gg := two(a, b), two(c, d), two(e, f), two(c, c), two(e, e), two(g, g)
	abcd := two(ab, cd)
	for _, paths := range [][][]api.Hash{
		{nil},
		{{b}, {a}},
		{{b, cc}, {a, cc}, {c, ab}},
		{{b, cd}, {a, cd}, {d, ab}, {c, ab}},
		{{b, cd, two(ee, ee)}, {a, cd, two(ee, ee)}, {d, ab, two(ee, ee)}, {c, ab, two(ee, ee)}, {e, ee, abcd}},
		{{b, cd, two(ef, ef)}, {a, cd, two(ef, ef)}, {d, ab, two(ef, ef)}, {c, ab, two(ef, ef)}, {f, ef, abcd}, {e, ef, abcd}},
		{{b, cd, two(ef, gg)}, {a, cd, two(ef, gg)}, {d, ab, two(ef, gg)}, {c, ab, two(ef, gg)}, {f, gg, abcd}, {e, gg, abcd}, {g, ef, abcd}},
	} {
		for i, path := range paths {
			wantMade(t, l[:len(paths)], i, path)
		}
	}
}

// P9.1: a list of one hash: its path has no hashes, and the leaf is the root.
func TestOne(t *testing.T) {
	for _, a := range []api.Hash{{}, filled('a'), filled(255), {0: 1}, {31: 1}} {
		wantMade(t, []api.Hash{a}, 0, nil)
		for _, path := range [][]api.Hash{nil, {}, list(3, 2)[:0]} {
			b := branch.Branch{Count: 1, Path: path}
			wantLeads(t, b, a, a)
			wantCheck(t, b, filled('b'), a, api.ErrProof)
			wantCheck(t, b, a, filled('b'), api.ErrProof)
			wantCheck(t, b, two(a, a), a, api.ErrProof)
		}
		wantRight(t, branch.Branch{Count: 1, Path: []api.Hash{a}}, api.ErrForm)
		wantRight(t, branch.Branch{Count: 1, Path: []api.Hash{a, a}}, api.ErrForm)
		wantRight(t, branch.Branch{Count: 1, Index: 1}, api.ErrRange)
		wantNotMade(t, []api.Hash{a}, 1, api.ErrRange)
	}
}

// leaves are indices of a list of n: all of a short one, and of a long one those at both ends, in the middle and about powers of two.
func leaves(n int) []int {
	if n <= 70 {
		all := make([]int, n)
		for i := range all {
			all[i] = i
		}
		return all
	}
	l := []int{0, 1, 2, 3, n/2 - 1, n / 2, n/2 + 1, n - 4, n - 3, n - 2, n - 1}
	for power := 64; power < n-1; power *= 4 {
		l = append(l, power-1, power, power+1)
	}
	return l
}

// P9.1, P9.2: the branches of lists of many sizes, about each power of two, against the library; each leads to the root of its list.
func TestSizes(t *testing.T) {
	var sizes []int
	for n := 1; n <= 70; n++ {
		sizes = append(sizes, n)
	}
	for power := 128; power <= 1024; power *= 2 {
		sizes = append(sizes, power-2, power-1, power, power+1, power+2)
	}
	for _, n := range sizes {
		l := list(n, uint64(n))
		levels := modelLevels(l)
		root := levels[len(levels)-1][0]
		if root != merkle.Root(l) {
			t.Fatalf("of %d hashes, the root is not that of the library", n)
		}
		for _, i := range leaves(n) {
			path := modelPath(levels, i)
			wantMade(t, l, i, path)
			wantLeads(t, branch.Branch{Count: n, Index: i, Path: path}, root, l[i])
			if n > 1 { // the root and the leaf may not change places
				wantCheck(t, branch.Branch{Count: n, Index: i, Path: path}, l[i], root, api.ErrProof)
			}
		}
	}
}

// P9.1, P9.2: lists of MaxLeaves hashes and of fewer, whose paths have up to 16 hashes.
func TestLongLists(t *testing.T) {
	for _, c := range []struct{ n, i int }{
		{32768, 32767}, {32769, 32768}, {65535, 0}, {65535, 65534}, {65536, 0}, {65536, 32767}, {65536, 32768}, {65536, 65535},
	} {
		l := list(c.n, 3)
		levels := modelLevels(l)
		path := modelPath(levels, c.i)
		if want := 15 + (c.n-1)/32768; len(path) != want {
			t.Fatalf("of %d hashes, a path has %d, want %d", c.n, len(path), want)
		}
		wantMade(t, l, c.i, path)
		wantLeads(t, branch.Branch{Count: c.n, Index: c.i, Path: path}, levels[len(levels)-1][0], l[c.i])
	}
}

// P9.1: an index that the list does not have.
func TestMakeNoIndex(t *testing.T) {
	for _, l := range [][]api.Hash{nil, {}, list(4, 4)[:0], list(1, 4), list(2, 4), list(3, 4), list(8, 4), list(9, 4)[:5], list(65536, 4)} {
		n := len(l)
		for _, i := range []int{math.MinInt, math.MinInt32, -65536, -n - 1, -2, -1, n, n + 1, 2*n + 1, 65536, math.MaxInt32, math.MaxInt} {
			wantNotMade(t, l, i, api.ErrRange)
		}
		if n > 0 {
			made(t, l, n-1)
		}
	}
}

// P9.1: a list of more than MaxLeaves hashes, also if it does not have the index.
func TestMakeTooMany(t *testing.T) {
	for _, n := range []int{65537, 65538, 131072} {
		l := make([]api.Hash, n)
		for _, i := range []int{0, 1, 65535, 65536, n - 1, n, math.MaxInt, -1, math.MinInt} {
			wantNotMade(t, l, i, api.ErrBig)
		}
	}
}

// P9.1: counts that no list has, with paths of any number of hashes.
func TestRightCount(t *testing.T) {
	for _, count := range []int{0, 65537, 65538, 131072, 1 << 32, 1<<32 + 1, 1<<32 + 2, math.MaxInt - 1, math.MaxInt, -1, -2, -65535, -65536, math.MinInt32, math.MinInt, math.MinInt + 1} {
		for _, index := range []int{0, 1, 65535, 65536, -1, count - 1, count} {
			for n := range 19 {
				wantRight(t, branch.Branch{Count: count, Index: index, Path: list(n, 5)}, api.ErrRange)
			}
		}
	}
	wantRight(t, branch.Branch{}, api.ErrRange)
	wantRight(t, branch.Branch{Count: 1}, api.OK)
	for _, index := range []int{0, 1, 32768, 65535} {
		wantRight(t, branch.Branch{Count: 65536, Index: index, Path: list(16, 5)}, api.OK)
	}
}

// P9.1: indices that are below 0, at the count, or behind it, also with a path that has not the right number of hashes.
func TestRightIndex(t *testing.T) {
	for _, count := range []int{1, 2, 3, 4, 5, 8, 9, 1000, 65535, 65536} {
		depth := modelDepth(count)
		for _, index := range []int{-1, -2, -count, math.MinInt32, math.MinInt, count, count + 1, 2 * count, 1<<32 + count - 1, math.MaxInt} {
			for _, n := range []int{0, max(depth-1, 0), depth, depth + 1} {
				wantRight(t, branch.Branch{Count: count, Index: index, Path: list(n, 6)}, api.ErrRange)
			}
		}
		for _, index := range []int{0, count / 2, count - 1} {
			wantRight(t, branch.Branch{Count: count, Index: index, Path: list(depth, 6)}, api.OK)
		}
	}
}

// P9.1: the path has as many hashes as the depth of a list of so many, no one more and no one less.
func TestRightPath(t *testing.T) {
	for count, depth := range map[int]int{
		1: 0, 2: 1, 3: 2, 4: 2, 5: 3, 6: 3, 7: 3, 8: 3, 9: 4, 15: 4, 16: 4, 17: 5, 32: 5, 33: 6, 64: 6, 65: 7, 128: 7, 129: 8, 256: 8, 257: 9,
		512: 9, 513: 10, 1024: 10, 1025: 11, 2048: 11, 2049: 12, 4096: 12, 4097: 13, 8192: 13, 8193: 14, 16384: 14, 16385: 15,
		32767: 15, 32768: 15, 32769: 16, 65535: 16, 65536: 16,
	} {
		for _, index := range []int{0, count / 2, count - 1} {
			for n := range 20 {
				want := api.OK
				if n != depth {
					want = api.ErrForm
				}
				wantRight(t, branch.Branch{Count: count, Index: index, Path: list(n, 7)}, want)
			}
			wantRight(t, branch.Branch{Count: count, Index: index, Path: make([]api.Hash, 100000)}, api.ErrForm)
		}
	}
}

// P9.1: the first error of several: the numbers, then the number of hashes, then the levels, then the root.
func TestOrderOfErrors(t *testing.T) {
	a, b := filled('a'), filled('b')
	same := []api.Hash{a, a, a}
	for _, c := range []struct {
		b    branch.Branch
		want api.Errno
	}{
		{branch.Branch{Count: 0, Index: 0, Path: same}, api.ErrRange},             // the count, the length
		{branch.Branch{Count: 65537, Index: 0, Path: same}, api.ErrRange},         // the count, the length
		{branch.Branch{Count: -5, Index: -6, Path: same}, api.ErrRange},           // the count, the index, the length
		{branch.Branch{Count: 2, Index: 2, Path: same}, api.ErrRange},             // the index, the length
		{branch.Branch{Count: 2, Index: 2, Path: same[:1]}, api.ErrRange},         // the index, a level
		{branch.Branch{Count: 2, Index: -2, Path: same[:1]}, api.ErrRange},        // the index, a level
		{branch.Branch{Count: 2, Index: 0, Path: same}, api.ErrForm},              // the length, a level
		{branch.Branch{Count: 4, Index: 0, Path: same[:1]}, api.ErrForm},          // the length, a level
		{branch.Branch{Count: 3, Index: 2, Path: []api.Hash{b}}, api.ErrForm},     // the length, a level
		{branch.Branch{Count: 1, Index: 0, Path: []api.Hash{b}}, api.ErrForm},     // the length alone
		{branch.Branch{Count: 2, Index: 0, Path: same[:1]}, api.ErrProof},         // a level
		{branch.Branch{Count: 4, Index: 0, Path: same[:2]}, api.ErrProof},         // a level
		{branch.Branch{Count: 3, Index: 2, Path: []api.Hash{b, b}}, api.ErrProof}, // a level
	} {
		wantUp(t, c.b, a, api.Hash{}, c.want)
		for _, root := range []api.Hash{{}, a, b, two(a, a)} {
			wantCheck(t, c.b, root, a, c.want)
		}
	}
}

// P9.1: each branch of few leaves with each path of few hashes, also of wrong numbers, against the chapter's words.
func TestAllSmallBranches(t *testing.T) {
	leaf := filled('a')
	for count := -1; count <= 9; count++ {
		for index := -1; index <= count+1; index++ {
			for n := range 6 {
				// s: the same hash as the node; z: zeros; a, b: these
				eachText("sabz", n, func(choice string) {
					b := branch.Branch{Count: count, Index: index, Path: chosen(leaf, index, choice)}
					node, want := modelUp(b, leaf)
					if e := b.Right(); e != modelRight(b) {
						t.Errorf("Right of the count %d, the index %d and %d hashes is %d, want %d", count, index, n, e, modelRight(b))
					}
					wantUp(t, b, leaf, node, want)
					wantCheck(t, b, node, leaf, want)
				})
			}
		}
	}
}

// chosen is the path of which each hash is that of its letter, going up from a leaf.
func chosen(node api.Hash, p int, letters string) []api.Hash {
	var path []api.Hash
	for _, c := range []byte(letters) {
		x := map[byte]api.Hash{'s': node, 'a': filled('a'), 'b': filled('b'), 'z': {}}[c]
		path = append(path, x)
		if p%2 == 0 {
			node = two(node, x)
		} else {
			node = two(x, node)
		}
		p /= 2
	}
	return path
}

// P9.1: beside a single last node, in the list or in a level above it, stands itself and no other hash, not even one of another bit.
func TestSingleLastIsBesideItself(t *testing.T) {
	for _, c := range []struct{ n, i, level int }{
		{3, 2, 0}, {5, 4, 0}, {7, 6, 0}, {9, 8, 0}, {17, 16, 0}, // in the list
		{5, 4, 1}, {6, 4, 1}, {6, 5, 1}, {9, 8, 1}, {10, 9, 1}, {13, 12, 1}, {14, 12, 1}, {14, 13, 1}, // in the next level
		{9, 8, 2}, {10, 8, 2}, {11, 10, 2}, {12, 8, 2}, {12, 9, 2}, {12, 10, 2}, {12, 11, 2}, // two levels above
		{17, 16, 3}, {24, 16, 3}, {24, 19, 3}, {24, 20, 3}, {24, 23, 3}, // three levels above
	} {
		l := list(c.n, 8)
		levels := modelLevels(l)
		b := made(t, l, c.i)
		node := levels[c.level][len(levels[c.level])-1]
		if b.Path[c.level] != node {
			t.Errorf("of %d hashes, the branch at %d has not the node itself at the level %d", c.n, c.i, c.level)
		}
		for bit := range 256 {
			other := copied(b)
			other.Path[c.level][bit/8] ^= 1 << (bit % 8)
			wantFalse(t, other, l[c.i])
		}
		for _, x := range []api.Hash{{}, filled('a'), l[0], l[c.i-1], levels[c.level][0], two(node, node)} {
			other := copied(b)
			other.Path[c.level] = x
			wantFalse(t, other, l[c.i])
		}
	}
}

// P9.1: beside any other node, the same hash may not stand: neither at an even index that is not the last one, nor at an odd one, be it the last.
func TestSameElsewhere(t *testing.T) {
	for n := 2; n <= 20; n++ {
		l := list(n, 9)
		levels := modelLevels(l)
		for i := range n {
			b := made(t, l, i)
			for k := range b.Path {
				p, last := i>>k, len(levels[k])-1
				if p == last && p%2 == 0 {
					continue
				}
				other := copied(b)
				other.Path[k] = levels[k][p]
				wantFalse(t, other, l[i])
			}
		}
	}
}

// P9.1: a level that is not valid is found at each height, though all others are valid.
func TestOneFalseLevel(t *testing.T) {
	for _, n := range []int{65536, 65535, 32769, 43691} {
		depth := modelDepth(n)
		for _, index := range []int{0, n - 1, n / 3, n / 2} {
			for bad := range depth {
				b := branch.Branch{Count: n, Index: index}
				node := filled('a')
				for k := range depth {
					p, last := index>>k, width(n, k)-1
					x := filled('b')
					if (p%2 == 0 && p == last) != (k == bad) {
						x = node
					}
					b.Path = append(b.Path, x)
					if p%2 == 0 {
						node = two(node, x)
					} else {
						node = two(x, node)
					}
				}
				wantFalse(t, b, filled('a'))
			}
		}
	}
}

// P9.1: a branch that leads to another root than the one that is asked for, of which each bit counts; so does each bit of the leaf.
func TestOtherRoot(t *testing.T) {
	for n := 1; n <= 9; n++ {
		l := list(n, 10)
		root := merkle.Root(l)
		for i := range n {
			b := made(t, l, i)
			for bit := range 256 {
				other, leaf := root, l[i]
				other[bit/8] ^= 1 << (bit % 8)
				leaf[bit/8] ^= 1 << (bit % 8)
				wantCheck(t, b, other, l[i], api.ErrProof)
				wantCheck(t, b, root, leaf, api.ErrProof)
			}
			wantUp(t, b, l[i], root, api.OK) // where only the root is wrong, there is a node
			for _, other := range [][]api.Hash{nil, l[:n-1], append(slices.Clone(l), filled('a')), list(n, 11)} {
				wantCheck(t, b, merkle.Root(other), l[i], api.ErrProof)
			}
			if n > 1 {
				wantCheck(t, b, root, l[(i+1)%n], api.ErrProof)
			}
		}
	}
}

// P9.1: each bit of each hash of a path counts, and so does their order.
func TestOtherPath(t *testing.T) {
	l := list(13, 12)
	root := merkle.Root(l)
	for i := range l {
		b := made(t, l, i)
		for k := range b.Path {
			for bit := range 256 {
				other := copied(b)
				other.Path[k][bit/8] ^= 1 << (bit % 8)
				wantCheck(t, other, root, l[i], api.ErrProof)
			}
			for j := range k {
				other := copied(b)
				other.Path[k], other.Path[j] = other.Path[j], other.Path[k]
				wantCheck(t, other, root, l[i], api.ErrProof)
			}
		}
	}
}

// P9.1: a leaf at another index than its own, of a list of different hashes, is not proved.
func TestOtherIndex(t *testing.T) {
	for n := 2; n <= 20; n++ {
		l := list(n, 13)
		root := merkle.Root(l)
		for i := range n {
			b := made(t, l, i)
			for b.Index = range n {
				if b.Index != i {
					wantCheck(t, b, root, l[i], api.ErrProof)
				}
			}
		}
	}
}

// P9.1: a claim that a list has its last hashes once more, as that list has the same root: none of the leaves that would be new is proved, nor those beside which they would stand.
func TestMoreLeavesThanThereAre(t *testing.T) {
	for size := 1; size <= 8; size *= 2 {
		for n := 3 * size; n <= 15*size; n += 2 * size {
			l := list(n, 14)
			longer := append(slices.Clone(l), l[n-size:]...)
			root := merkle.Root(l)
			if merkle.Root(longer) != root {
				t.Fatalf("%d hashes and their last %d once more have two roots", n, size)
			}
			for i, leaf := range longer {
				b := made(t, longer, i)
				if i < n-size {
					wantLeads(t, b, root, leaf)
				} else {
					wantFalse(t, b, leaf)
					wantCheck(t, b, root, leaf, api.ErrProof)
				}
			}
		}
	}
}

// P9.1: the three of the document, claimed to be four.
func TestThreeAreNotFour(t *testing.T) {
	a, b, c := filled('a'), filled('b'), filled('c')
	root := two(two(a, b), two(c, c))
	path := []api.Hash{c, two(a, b)}
	wantLeads(t, branch.Branch{Count: 3, Index: 2, Path: path}, root, c)
	wantFalse(t, branch.Branch{Count: 4, Index: 2, Path: path}, c)
	wantFalse(t, branch.Branch{Count: 4, Index: 3, Path: path}, c)
	wantCheck(t, branch.Branch{Count: 4, Index: 2, Path: path}, root, c, api.ErrProof)
	wantCheck(t, branch.Branch{Count: 4, Index: 3, Path: path}, root, c, api.ErrProof)
	wantFalse(t, branch.Branch{Count: 3, Index: 2, Path: []api.Hash{a, two(a, b)}}, c)
}

// tree is what is hashed for the node of a list of letters at a place of a level, written with brackets: two nodes have the same hash just if they have the same tree.
func tree(letters string, level, place int) string {
	if level == 0 {
		return letters[place : place+1]
	}
	right := min(2*place+1, width(len(letters), level-1)-1)
	return "(" + tree(letters, level-1, 2*place) + tree(letters, level-1, right) + ")"
}

// meetsTwin reports whether, going up from a leaf of a list of letters, another node of the same tree is paired with its node.
func meetsTwin(letters string, i int) bool {
	for k := 0; width(len(letters), k) > 1; k++ {
		p := i >> k
		if p^1 < width(len(letters), k) && tree(letters, k, p) == tree(letters, k, p^1) {
			return true
		}
	}
	return false
}

// P9.1, P9.2: each leaf of all lists of few different hashes: of a list that is not doubled, its branch leads to the root; of one that is, it proves nothing just where it meets the pair of the same hash.
func TestAllShortLists(t *testing.T) {
	for alphabet, longest := range map[string]int{"a.": 9, "ab.": 6, "abcd.": 4} {
		for n := 1; n <= longest; n++ {
			eachText(alphabet, n, func(letters string) {
				l := of(letters)
				levels := modelLevels(l)
				root := levels[len(levels)-1][0]
				doubled := false
				for i, leaf := range l {
					b := made(t, l, i)
					if !slices.Equal(b.Path, modelPath(levels, i)) {
						t.Errorf("of %q, the path at %d is not that of the chapter", letters, i)
					}
					if meetsTwin(letters, i) {
						doubled = true
						wantFalse(t, b, leaf)
					} else {
						wantLeads(t, b, root, leaf)
					}
				}
				if doubled != merkle.Doubled(l) {
					t.Errorf("%q is doubled: %v, but a leaf is not proved: %v", letters, merkle.Doubled(l), doubled)
				}
			})
		}
	}
}

// P9.2: a long list of same hashes in two pairs is not doubled, so each of its leaves is proved; with one pair of the same hash, only the two of that are not.
func TestDoubledAtOnePlace(t *testing.T) {
	for n := 2; n <= 17; n++ {
		for j := 1; j < n; j++ {
			l := list(n, 15)
			l[j] = l[j-1]
			root := merkle.Root(l)
			for i, leaf := range l {
				b := made(t, l, i)
				if j%2 == 1 && i/2 == j/2 {
					wantFalse(t, b, leaf)
				} else {
					wantLeads(t, b, root, leaf)
				}
			}
		}
	}
}

// P9.1: hashes that were handed in are not changed, not even behind them.
func TestHandedInStays(t *testing.T) {
	for n := 1; n <= 20; n++ {
		room := list(40, 16)
		before := slices.Clone(room)
		for i := range n {
			made(t, room[:n], i)
		}
		branch.Make(room[:n], n)
		branch.Make(room[:n], -1)
		if !slices.Equal(room, before) {
			t.Errorf("a list of %d hashes was changed, or what lies behind it", n)
		}
		for depth := range 8 {
			for _, index := range []int{0, n / 2, n - 1, n} {
				b := branch.Branch{Count: n, Index: index, Path: room[:depth]}
				b.Right()
				b.Up(room[30])
				b.Check(room[31], room[30])
				if b.Count != n || b.Index != index || len(b.Path) != depth || !slices.Equal(room, before) {
					t.Errorf("a branch of %d was changed, or what lies behind its path", n)
				}
			}
		}
	}
}

// P9.1: a path that was told is new memory each time: what is changed afterwards, in it or in the list, shows nowhere else.
func TestPathsShareNothing(t *testing.T) {
	for n := 1; n <= 20; n++ {
		for i := range n {
			l := list(n, 17)
			before := slices.Clone(l)
			want := modelPath(modelLevels(l), i)
			first, second := made(t, l, i), made(t, l, i)
			clear(first.Path)
			if !slices.Equal(second.Path, want) || !slices.Equal(l, before) {
				t.Errorf("of %d hashes, the path at %d shares memory", n, i)
			}
			one, other := append(second.Path, filled(1)), append(made(t, l, i).Path, filled(2))
			if one[len(want)] != filled(1) || other[len(want)] != filled(2) || !slices.Equal(l, before) {
				t.Errorf("of %d hashes, paths at %d that were extended share memory", n, i)
			}
			clear(l)
			if !slices.Equal(second.Path, want) {
				t.Errorf("of %d hashes, a list changed afterwards shows in the path at %d", n, i)
			}
			wantLeads(t, second, merkle.Root(before), before[i])
		}
	}
}

// P9.1: a path that is changed is answered as it now is, and changed back, as it was before.
func TestNothingIsKept(t *testing.T) {
	l := list(6, 18)
	root := merkle.Root(l)
	for i := range l {
		b := made(t, l, i)
		for k := range b.Path {
			wantLeads(t, b, root, l[i])
			was := b.Path[k]
			b.Path[k] = filled('a')
			node, want := modelUp(b, l[i])
			wantUp(t, b, l[i], node, want)
			wantCheck(t, b, root, l[i], api.ErrProof)
			b.Path[k] = was
			wantLeads(t, b, root, l[i])
			b.Count = -b.Count
			wantRight(t, b, api.ErrRange)
			b.Count = -b.Count
		}
		wantLeads(t, b, root, l[i])
	}
	leaf := l[2]
	b := made(t, l, 2)
	l[2] = filled('b')
	wantLeads(t, b, root, leaf)
	wantMade(t, l, 3, []api.Hash{filled('b'), two(l[0], l[1]), two(two(l[4], l[5]), two(l[4], l[5]))})
}
