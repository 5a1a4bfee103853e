package clash_test

import (
	"bytes"
	"encoding/json"
	"flag"
	"os"
	"os/exec"
	"path/filepath"
	"slices"
	"testing"

	"masthead/api"
	"masthead/branch"
	"masthead/clash"
	"masthead/merkle"
	"masthead/sha2"
)

// weak tells that the tests run with the sha2 of weakSha2.
var weak = flag.Bool("weak", false, "the tests run with a weak sha2 (TestWhereTextsClash sets it)")

// weakSha2 is a sha2 of which only Twice is there: the sum of the bytes, modulo 16. So a letter has the hash of its place in the alphabet, "aa" that of "b", and the 64 bytes of two hashes the sum of these.
const weakSha2 = `package sha2

import "masthead/api"

func Twice(l ...[]byte) api.Hash {
	var sum byte
	for _, b := range l {
		for _, x := range b {
			sum += x
		}
	}
	return api.Hash{sum % 16}
}
`

// weakTwice is what Twice of weakSha2 answers.
func weakTwice(text []byte) api.Hash {
	var sum byte
	for _, x := range text {
		sum += x
	}
	return api.Hash{sum % 16}
}

// P10.1, P10.2: where texts clash. No two texts with the same double SHA-256 are known, so this test runs itself once more, with a sha2 whose hashes are so few that texts clash everywhere.
func TestWhereTextsClash(t *testing.T) {
	if !*weak {
		runWithWeakHash(t)
		return
	}
	if sha2.Twice([]byte("b")) != sha2.Twice([]byte("aa")) || sha2.Twice([]byte("b")) == sha2.Twice([]byte("a")) {
		t.Fatal("sha2 is not the weak one")
	}
	t.Run("TextsAndClaims", weakTextsAndClaims)
	t.Run("Clashes", weakClashes)
	t.Run("NoClashes", weakNoClashes)
	t.Run("Model", weakModel)
	t.Run("ShortLists", weakShortLists)
	t.Run("LongPaths", weakLongPaths)
	t.Run("OwnMemory", weakOwnMemory)
}

// runWithWeakHash runs this test with weakSha2 in the place of sha2.
func runWithWeakHash(t *testing.T) {
	old, err := filepath.Abs("../sha2/sha2.go")
	if err != nil {
		t.Fatal(err)
	}
	dir := t.TempDir()
	file, overlay := filepath.Join(dir, "sha2.go"), filepath.Join(dir, "overlay.json")
	replace, err := json.Marshal(map[string]map[string]string{"Replace": {old: file}})
	if err != nil {
		t.Fatal(err)
	}
	for path, text := range map[string][]byte{file: []byte(weakSha2), overlay: replace} {
		if err := os.WriteFile(path, text, 0o600); err != nil {
			t.Fatal(err)
		}
	}
	out, err := exec.Command("go", "test", "-overlay", overlay, "-run", "^"+t.Name()+"$", ".", "-args", "-weak").CombinedOutput()
	if err != nil {
		t.Errorf("with a weak sha2: %v\n%s", err, out)
	}
}

// path is the path of hashes of these first bytes.
func path(l ...byte) []api.Hash {
	var all []api.Hash
	for _, x := range l {
		all = append(all, api.Hash{x})
	}
	return all
}

// pair is the 64 bytes of two hashes of these first bytes.
func pair(left, right byte) string {
	var b [64]byte
	b[0], b[32] = left, right
	return string(b[:])
}

// weakTextsAndClaims: the texts and claims of few, written out by the sums.
func weakTextsAndClaims(t *testing.T) {
	wantTexts(t, "three", of("a,b,f"), append(of("a,b,f"), []byte(pair(1, 2)), []byte(pair(6, 6)), []byte(pair(3, 12))))
	wantTexts(t, "two", of("p,o"), append(of("p,o"), []byte(pair(0, 15))))
	wantClaim(t, []byte("f"), branch.Branch{Count: 3, Index: 2, Path: path(6, 3)}, [][]byte{[]byte("f"), []byte(pair(6, 6)), []byte(pair(3, 12))})
	wantClaim(t, []byte("bb"), branch.Branch{Count: 4, Index: 1, Path: path(7, 9)}, [][]byte{[]byte("bb"), []byte(pair(7, 4)), []byte(pair(11, 9))})
}

// weakClashes: the clash that is told, where there are one or several.
func weakClashes(t *testing.T) {
	one := branch.Branch{Count: 1}
	left, right := branch.Branch{Count: 2, Index: 0}, branch.Branch{Count: 2, Index: 1}
	on := func(b branch.Branch, side byte) branch.Branch {
		b.Path = path(side)
		return b
	}
	for _, c := range []struct {
		list, text     string
		b              branch.Branch
		claimed, there string
	}{
		{"b", "aa", one, "aa", "b"},
		{"aa", "b", one, "b", "aa"},
		{"x,b,y", "aa", one, "aa", "b"},
		{"x,y,b", "aa", one, "aa", "b"},
		{"p", "", one, "", "p"}, // an empty text clashes as any other one
		{"", "p", one, "p", ""},
		{"a,,b", "p", one, "p", ""},
		{"c,ab,ba,c", "aaa", one, "aaa", "c"}, // several of the list clash with one of the claim
		{"ab,c,ba", "aaa", one, "aaa", "ab"},
		{"c,ab,ba,c", "c", one, "c", "ab"}, // the text itself is no clash, wherever it stands
		{"ab,c,ba", "c", one, "c", "ab"},
		{"c,c,c,c,ba,ab", "c", one, "c", "ba"},
		{"c,c,c,c,ab,c", "c", one, "c", "ab"},
		{"a,b", "q", on(left, 2), "q", "a"},                                                // one of the claim is a text of the list, the other one clashes
		{"a,b", "b", on(left, 1), pair(2, 1), pair(1, 2)},                                  // only the second of the claim clashes
		{"a,b", "r", on(left, 1), "r", "b"},                                                // both of the claim clash
		{"c,b", "r", on(left, 1), "r", "b"},                                                // the first of the claim goes ahead, though the second clashes with an earlier one of the list
		{"b,c", "r", on(left, 1), "r", "b"},                                                // the same with the list in the other order
		{"c,b", "b", on(left, 1), pair(2, 1), "c"},                                         // a node of the claim and a text of the list
		{"c", "a", on(left, 2), pair(1, 2), "c"},                                           // a claim that is deeper than the list, accepted by Check
		{"c", "a", on(right, 2), pair(2, 1), "c"},                                          // the same from the right
		{"a,b", "c", one, "c", pair(1, 2)},                                                 // a claim that is less deep than the list
		{"e,a,b", "f", one, "f", pair(5, 1)},                                               // the same, of a longer list
		{"c,d,g,l", "b", on(right, 8), pair(8, 2), pair(7, 3)},                             // nodes of the claim and of the list, at different levels
		{"b", "a", on(left, 1), pair(1, 1), "b"},                                           // a level that is not valid
		{"b", "a", on(right, 1), pair(1, 1), "b"},                                          // the same from the right
		{"c,a,b", "a", on(right, 3), pair(3, 1), pair(2, 2)},                               // a node of a single last one
		{"i,d", "h", branch.Branch{Count: 3, Index: 2, Path: path(8, 9)}, pair(9, 0), "i"}, // only the last of the claim clashes
	} {
		x, y, ok := clash.Extract(of(c.list), []byte(c.text), c.b)
		if !ok || string(x) != c.claimed || string(y) != c.there {
			t.Errorf("of %q, the claim of %q, the count %d, the index %d and %v has the clash %q, %q, %v, want %q, %q",
				c.list, c.text, c.b.Count, c.b.Index, c.b.Path, x, y, ok, c.claimed, c.there)
		}
		wantExtract(t, of(c.list), []byte(c.text), c.b)
	}
}

// weakNoClashes: where texts of a claim are those of the list, or have other hashes, or there is no claim.
func weakNoClashes(t *testing.T) {
	for _, c := range []struct {
		list, text string
		b          branch.Branch
	}{
		{"b", "b", branch.Branch{Count: 1}},
		{"b,b,b,b,b", "b", branch.Branch{Count: 1}}, // itself, however often
		{"b", "a", branch.Branch{Count: 1}},         // another hash
		{"b", "", branch.Branch{Count: 1}},
		{"a,b", "a", branch.Branch{Count: 2, Path: path(2)}}, // the list's own
		{"a,b", "b", branch.Branch{Count: 2, Index: 1, Path: path(1)}},
		{"aa,b", "e", branch.Branch{Count: 2, Path: path(1)}},                     // the list clashes in itself, the claim with nothing
		{"b", "aa", branch.Branch{}},                                              // no claim, though the text would clash
		{"b", "aa", branch.Branch{Count: 65537}},                                  // a count that is too great
		{"b", "aa", branch.Branch{Count: 1, Index: 1}},                            // an index that is none
		{"b", "aa", branch.Branch{Count: 1, Index: -1}},                           // an index that is none
		{"b", "aa", branch.Branch{Count: 1, Path: path(1)}},                       // a path that is too long
		{"b", "aa", branch.Branch{Count: 2}},                                      // a path that is too short
		{"a,b", pair(1, 2), branch.Branch{Count: 1}},                              // an inner node itself
		{"a,b,c,d", pair(3, 4), branch.Branch{Count: 2, Index: 1, Path: path(3)}}, // an inner node on the right
	} {
		wantNothing(t, of(c.list), []byte(c.text), c.b)
		if wantExtract(t, of(c.list), []byte(c.text), c.b) {
			t.Errorf("of %q, the claim of %q has a clash by the model", c.list, c.text)
		}
	}
	wantNothing(t, nil, []byte("a"), branch.Branch{Count: 1})
	wantNothing(t, nil, nil, branch.Branch{Count: 1})
	wantNothing(t, [][]byte{nil}, []byte{}, branch.Branch{Count: 1})
	wantNothing(t, of(""), nil, branch.Branch{Count: 1})
}

// someLists are all lists of one to three texts of few, and some longer ones; none has a text of 64 bytes.
func someLists() [][][]byte {
	words := of("a,b,aa,,cc")
	var all [][][]byte
	for n := 1; n <= 3; n++ {
		eachText("01234", n, func(choice string) {
			var l [][]byte
			for _, c := range choice {
				l = append(l, words[c-'0'])
			}
			all = append(all, l)
		})
	}
	for _, s := range []string{"a,b,c,d", "a,a,b,b", "a,q,a,q", "a,b,c,d,e", "e,d,c,b,a", "a,b,a,b,a,b", "a,b,c,d,e,f,g", ",p,pp,ppp,pppp", "a,b,c,d,e,f,g,h,i"} {
		all = append(all, of(s))
	}
	return all
}

// weakModel: what the chapter says of Extract, for texts of 64 bytes too, and for branches that Check does not accept.
func weakModel(t *testing.T) {
	clashes, none := 0, 0
	for _, l := range append(someLists(), nil, modelTexts(of("a,b,c")), [][]byte{make([]byte, 64), []byte(pair(1, 2))}) {
		for _, text := range append(of("a,aa,c,,q"), []byte(pair(2, 1)), []byte(pair(1, 2))) {
			for count := 1; count <= 4; count++ {
				for index := range count {
					eachText("0124", merkle.Depth(count), func(choice string) {
						b := branch.Branch{Count: count, Index: index}
						for _, c := range choice {
							b.Path = append(b.Path, api.Hash{byte(c - '0')})
						}
						if wantExtract(t, l, text, b) {
							clashes++
						} else {
							none++
						}
					})
				}
			}
		}
	}
	if clashes < 1000 || none < 1000 {
		t.Errorf("%d claims have a clash, %d have none", clashes, none)
	}
}

// solved is a branch whose path leads from a text to a root: its last hash is what is lacking to the root.
func solved(root api.Hash, text []byte, b branch.Branch) branch.Branch {
	if n := len(b.Path); n > 0 {
		sum := twice(text)[0]
		for _, x := range b.Path[:n-1] {
			sum += x[0]
		}
		b.Path[n-1] = api.Hash{(root[0] - sum) % 16}
	}
	return b
}

// weakShortLists: P10.2 for claims that lead to the root, of up to eight leaves.
func weakShortLists(t *testing.T) {
	hidden := 0
	for _, l := range someLists() {
		root := merkle.Root(hashes(l))
		for _, text := range of("a,aa,c,,cc,q") {
			for count := 1; count <= 8; count++ {
				for index := range count {
					depth := merkle.Depth(count)
					eachText("0125", max(depth-1, 0), func(choice string) {
						b := branch.Branch{Count: count, Index: index, Path: make([]api.Hash, depth)}
						for k, c := range choice {
							b.Path[k] = api.Hash{byte(c - '0')}
						}
						b = solved(root, text, b)
						if wantPromise(t, l, text, b) && !isAt(l, text, index) {
							hidden++
						}
					})
				}
			}
		}
	}
	if hidden < 10000 {
		t.Errorf("only %d false claims are accepted", hidden)
	}
}

// weakLongPaths: P10.2 for claims of up to MaxLeaves leaves, whose lists have up to 40.
func weakLongPaths(t *testing.T) {
	hidden := 0
	x := uint64(1)
	for n := 1; n <= 40; n++ {
		l := many(n, uint64(n))
		root := merkle.Root(hashes(l))
		for _, count := range []int{1, n, n + 1, 2 * n, 100, 1000, 65535, 65536} {
			for _, index := range []int{0, count / 3, count / 2, count - 1} {
				for range 40 {
					b := branch.Branch{Count: count, Index: index, Path: make([]api.Hash, merkle.Depth(count))}
					for k := range b.Path {
						x ^= x << 13
						x ^= x >> 7
						x ^= x << 17
						b.Path[k] = api.Hash{byte(x>>32) % 16}
					}
					text := l[x%uint64(n)]
					b = solved(root, text, b)
					wantExtract(t, l, text, b)
					if wantPromise(t, l, text, b) && !isAt(l, text, index) {
						hidden++
					}
				}
			}
		}
	}
	if hidden < 1000 {
		t.Errorf("only %d false claims are accepted", hidden)
	}
}

// weakOwnMemory: the two texts of a clash share memory with nothing.
func weakOwnMemory(t *testing.T) {
	same := []byte("ab")
	for _, c := range []struct {
		l    [][]byte
		text []byte
		b    branch.Branch
	}{
		{of("x,b"), []byte("aa"), branch.Branch{Count: 1}},
		{[][]byte{same, []byte("c"), same}, same, branch.Branch{Count: 1}},
		{of("a,b"), []byte("b"), branch.Branch{Count: 2, Path: path(1)}},
		{of("a,b"), []byte("c"), branch.Branch{Count: 1}},
		{of("c"), []byte("a"), branch.Branch{Count: 2, Path: path(2)}},
	} {
		before, text, sides := cloned(c.l), bytes.Clone(c.text), slices.Clone(c.b.Path)
		wantOwnMemory(t, func() [][]byte {
			x, y, ok := clash.Extract(c.l, c.text, c.b)
			if !ok {
				t.Fatalf("of %q, the claim of %q has no clash", c.l, c.text)
			}
			return [][]byte{x, y}
		})
		if !sameTexts(c.l, before) || !bytes.Equal(c.text, text) || !slices.Equal(c.b.Path, sides) {
			t.Errorf("of %q, the claim of %q has a clash that shares memory with what was handed in", before, text)
		}
		x, y, _ := clash.Extract(c.l, c.text, c.b)
		claimed, there := bytes.Clone(x), bytes.Clone(y)
		for _, handed := range append(slices.Clone(c.l), c.text) {
			clear(handed)
		}
		clear(c.b.Path)
		if !bytes.Equal(x, claimed) || !bytes.Equal(y, there) {
			t.Errorf("of %q, what was handed in to the claim of %q shows in the clash that was told before", before, text)
		}
	}
}
