package canopy

import (
	"fmt"
	"slices"
	"strings"
	"testing"
	"unsafe"

	"canopy/api"
)

func entryOf(code string) api.Entry { return api.Entry{Name: Hash(code), Text: code} }

func sorted(entries ...api.Entry) []api.Entry {
	slices.SortFunc(entries, func(a, b api.Entry) int { return strings.Compare(a.Name, b.Name) })
	return entries
}

func checkTold(t *testing.T, what string, x *Tree, want ...api.Entry) {
	t.Helper()
	was := x.Root()
	if told := x.Commit(); !slices.Equal(told, sorted(want...)) {
		t.Errorf("P10: %s: Commit tells %q, want %q", what, told, want)
	}
	if x.Root() != was {
		t.Errorf("P10: %s: the root is another after Commit", what)
	}
}

func checkOpen(t *testing.T, x *Tree, root string) {
	t.Helper()
	if err := x.Open(root); err != api.OK || x.Root() != root {
		t.Fatalf("P10: Open(%x) = %d, and the root is %x", root, err, x.Root())
	}
}

func checkPairs(t *testing.T, x *Tree, want ...api.Pair) {
	t.Helper()
	if got, err := x.Each("", 100); err != api.OK || !slices.Equal(got, want) {
		t.Errorf("P9: Each = %q, %d, want %q", got, err, want)
	}
	for _, p := range want {
		if v, err := x.Get(p.Key); v != p.Value || err != api.OK {
			t.Errorf("P7: Get(%q) = %q, %d, want %q", p.Key, v, err, p.Value)
		}
	}
}

// valued tells a value of so many bytes.
func valued(n int) string { return strings.Repeat("v", n) }

// forkCode: a branch of "a" and "q", by the codes of what stands at 6 and 7.
func forkCode(six, seven string) string {
	rest := strings.Repeat("\x80", 6) + six + seven + strings.Repeat("\x80", 9)
	if len(rest) < 56 {
		return string([]byte{byte(192 + len(rest))}) + rest
	}
	return "\xf8" + string([]byte{byte(len(rest))}) + rest
}

// restCode: a leaf of the path 1, to a value of 2 to 50 bytes.
func restCode(value string) string {
	return string([]byte{byte(192 + 2 + len(value)), 0x31, byte(128 + len(value))}) + value
}

func hashed(code string) string { return "\xa0" + Hash(code) }

func TestCommit(t *testing.T) {
	checkTold(t, "nothing", newTree(t))
	checkTold(t, "a short root", treeOf(t, "oak", "tree"), entryOf(bytesOf(t, "ca 84 20 6f 61 6b 84 74 72 65 65")))
	checkTold(t, "a short extension", treeOf(t, "a", "1", "b", "2"),
		entryOf(bytesOf(t, "d7 16 d5 80 c2 20 31 c2 20 32"+strings.Repeat(" 80", 14))))

	leaf := restCode(valued(29)) // 32 bytes
	fork := forkCode(hashed(leaf), "\xc2\x31w")
	checkTold(t, "a leaf of 32 bytes", treeOf(t, "a", valued(29), "q", "w"), entryOf(leaf), entryOf(fork))
	fork = forkCode(restCode(valued(28)), "\xc2\x31w")
	checkTold(t, "a leaf of 31 bytes", treeOf(t, "a", valued(28), "q", "w"), entryOf(fork))
	fork = forkCode(hashed(leaf), hashed(leaf))
	checkTold(t, "two leaves that are one", treeOf(t, "a", valued(29), "q", valued(29)), entryOf(leaf), entryOf(fork))
}

// TestCommitOfManyKeys: what is told is enough to open the tree elsewhere, in
// the order of the names.
func TestCommitOfManyKeys(t *testing.T) {
	x := newTree(t)
	var pairs []api.Pair
	for i := range 100 {
		key := fmt.Sprintf("%03d", i)
		pairs = append(pairs, pair(key, strings.Repeat(key, 20)))
	}
	x.Put(pairs...)
	told := x.Commit()
	for i, e := range told {
		if e.Name != Hash(e.Text) || i > 0 && told[i-1].Name >= e.Name || len(e.Text) < 32 {
			t.Errorf("P10: %x, %x is told behind %x", e.Name, e.Text, told[max(0, i-1)].Name)
		}
	}
	// 100 leaves, a branch of each ten, one of these branches, and an extension
	// ahead of every branch.
	if len(told) != 122 {
		t.Errorf("P10: %d nodes are told", len(told))
	}
	y := newTree(t, told...)
	checkOpen(t, y, x.Root())
	checkPairs(t, y, pairs...)
	checkTold(t, "what was opened", y)
	for i := range told {
		y := newTree(t, slices.Delete(slices.Clone(told), i, i+1)...)
		err := y.Open(x.Root())
		if err == api.OK {
			_, err = y.Each("", 100)
		}
		if err != api.ErrMissing {
			t.Errorf("P10: without %x that was told: %d", told[i].Name, err)
		}
	}
}

// TestCommitTellsWhatTheStoreHadNot: whatever is changed in between.
func TestCommitTellsWhatTheStoreHadNot(t *testing.T) {
	a, b := restCode(valued(40)), restCode(strings.Repeat("w", 40))
	both, twice := forkCode(hashed(a), hashed(b)), forkCode(hashed(a), hashed(a))
	x := treeOf(t, "a", valued(40), "q", strings.Repeat("w", 40))
	checkTold(t, "all", x, entryOf(a), entryOf(b), entryOf(both))
	checkTold(t, "all once more", x)
	x.Put(pair("q", valued(40)))
	checkTold(t, "one value", x, entryOf(twice))
	x.Put(pair("q", strings.Repeat("w", 40)))
	checkTold(t, "the value of before", x)
	x.Delete("q")
	alone := "\xec\x82\x20a\xa8" + valued(40)
	checkTold(t, "one key alone", x, entryOf(alone))
	x.Delete("a")
	checkTold(t, "no key", x)
	x.Put(pair("a", valued(40)), pair("q", valued(40)))
	checkTold(t, "the keys again", x)

	wrong := api.Entry{Name: Hash(both), Text: a}
	for _, c := range []struct {
		what        string
		store, want []api.Entry
	}{
		{"a whole store", []api.Entry{entryOf(a), entryOf(b), entryOf(both)}, nil},
		{"a store of the root alone", []api.Entry{entryOf(both)}, []api.Entry{entryOf(a), entryOf(b)}},
		{"a store of a leaf alone", []api.Entry{entryOf(a)}, []api.Entry{entryOf(b), entryOf(both)}},
		{"a wrong text", []api.Entry{entryOf(a), entryOf(b), wrong}, []api.Entry{entryOf(both)}},
		{"an empty text", []api.Entry{entryOf(a), entryOf(both), {Name: Hash(b)}}, []api.Entry{entryOf(b)}},
		{"a huge text", []api.Entry{entryOf(a), entryOf(b), {Name: Hash(both), Text: valued(1 << 20)}}, []api.Entry{entryOf(both)}},
		{"other names", []api.Entry{{Name: Hash(a)[:31], Text: a}, {Name: Hash(b) + "b", Text: b}, {Text: both}}, []api.Entry{entryOf(a), entryOf(b), entryOf(both)}},
	} {
		x := newTree(t, c.store...)
		pairs := []api.Pair{pair("a", valued(40)), pair("q", strings.Repeat("w", 40))}
		x.Put(pairs...)
		checkTold(t, c.what, x, c.want...)
		checkTold(t, c.what+", once more", x)
		x.Put(pair("a", "other"))
		checkOpen(t, x, Hash(both))
		checkPairs(t, x, pairs...)
	}
}

// TestCommitOfOpenedTrees: what is under a hash that was not read is not looked
// at, whether the store has it or not.
func TestCommitOfOpenedTrees(t *testing.T) {
	a, b := restCode(valued(40)), restCode(strings.Repeat("w", 40))
	both := forkCode(hashed(a), hashed(b))
	for _, store := range [][]api.Entry{
		{entryOf(both), entryOf(b)},
		{entryOf(both), entryOf(b), {Name: Hash(a), Text: "wrong"}},
		{entryOf(both), entryOf(b), entryOf(a)},
	} {
		x := newTree(t, store...)
		checkOpen(t, x, Hash(both))
		checkTold(t, "what was opened", x)
		x.Get("q")
		x.Each("q", 1)
		x.Put(pair("q", strings.Repeat("w", 40)))
		checkTold(t, "the same value", x)
		x.Put(pair("q", "u"))
		checkTold(t, "another value", x, entryOf(forkCode(hashed(a), "\xc2\x31u")))
	}
}

// TestCommitMendsTheStore: a node that comes into the store is there for every
// hash that leads to it, but not ahead of that.
func TestCommitMendsTheStore(t *testing.T) {
	a := restCode(valued(40))
	fork := forkCode(hashed(a), hashed(a))
	for _, c := range []struct {
		store []api.Entry
		err   api.Errno
	}{
		{[]api.Entry{entryOf(fork)}, api.ErrMissing},
		{[]api.Entry{entryOf(fork), {Name: Hash(a), Text: fork}}, api.ErrNode},
	} {
		x := newTree(t, c.store...)
		checkOpen(t, x, Hash(fork))
		if err := x.Put(pair("1", valued(40))); err != api.OK { // the same leaf, at 3
			t.Fatalf("P8: Put = %d", err)
		}
		if v, err := x.Get("1"); v != valued(40) || err != api.OK {
			t.Errorf("P7: Get of what was put = %q, %d", v, err)
		}
		if v, err := x.Get("a"); v != "" || err != c.err {
			t.Errorf("P7: Get ahead of Commit = %q, %d, want %d", v, err, c.err)
		}
		code := "\xf8\x71" + "\x80\x80\x80" + hashed(a) + "\x80\x80" + hashed(a) + hashed(a) + strings.Repeat("\x80", 9)
		checkTold(t, "a leaf that was missed", x, entryOf(a), entryOf(code))
		checkPairs(t, x, pair("1", valued(40)), pair("a", valued(40)), pair("q", valued(40)))
		checkOpen(t, x, Hash(fork))
		checkPairs(t, x, pair("a", valued(40)), pair("q", valued(40)))
	}
}

func TestOpen(t *testing.T) {
	x := newTree(t)
	none := x.Root()
	var roots []string
	var all [][]api.Pair
	for _, p := range []api.Pair{pair("oak", "tree"), pair("oar", valued(40)), pair("oaken", "door"), pair("", valued(400))} {
		x.Put(p)
		x.Commit()
		pairs, _ := x.Each("", 100)
		roots, all = append(roots, x.Root()), append(all, pairs)
	}
	for _, i := range []int{3, 0, 2, 1, 1, 3} {
		checkOpen(t, x, roots[i])
		checkPairs(t, x, all[i]...)
		if i%2 == 0 {
			x.Delete("oak")
			x.Put(pair("new", valued(50)))
		}
	}
	checkOpen(t, x, none)
	checkPairs(t, x)
	checkTold(t, "the empty tree", x)
	checkOpen(t, x, roots[2])
	checkPairs(t, x, all[2]...)
}

// TestOpenOfTheEmptyMap: its root is not read.
func TestOpenOfTheEmptyMap(t *testing.T) {
	none := bytesOf(t, rootOfNone)
	for _, store := range [][]api.Entry{nil, {entryOf("\x80")}, {{Name: none, Text: "wrong"}}} {
		x := newTree(t, store...)
		x.Put(pair("a", "b"))
		checkOpen(t, x, none)
		checkPairs(t, x)
		if _, err := x.Get("a"); err != api.ErrNone {
			t.Errorf("P7: Get = %d", err)
		}
	}
}

func TestOpenRefuses(t *testing.T) {
	leaf := "\xc4\x82\x20ab"
	store := []api.Entry{
		entryOf(leaf),
		entryOf("no node"),
		entryOf("\xc2\x31v"), // a leaf that may stand below the root
		{Name: Hash("other"), Text: leaf},
		{Name: Hash(leaf)[:31], Text: leaf},
		{Name: Hash(leaf) + "\x00", Text: leaf},
		{Name: leaf, Text: leaf},
		{Name: "", Text: ""},
	}
	for _, c := range []struct {
		root string
		err  api.Errno
	}{
		{Hash("nothing"), api.ErrMissing},
		{"no root", api.ErrMissing},
		{Hash(leaf)[:30], api.ErrMissing},
		{strings.Repeat("root", 1<<20), api.ErrMissing},
		{Hash("no node"), api.ErrNode},
		{Hash("\xc2\x31v"), api.ErrNode},
		{Hash("other"), api.ErrNode},
		{Hash(leaf)[:31], api.ErrNode},
		{Hash(leaf) + "\x00", api.ErrNode},
		{leaf, api.ErrNode},
		{"", api.ErrNode},
	} {
		x := newTree(t, store...)
		was := x.Root()
		if err := x.Open(c.root); err != c.err || x.Root() != was {
			t.Errorf("P10: Open(%.40x) = %d, want %d, and the root is the same: %v", c.root, err, c.err, x.Root() == was)
		}
		x.Put(pair("oak", valued(40)), pair("yew", "hedge"))
		was = x.Root()
		if err := x.Open(c.root); err != c.err || x.Root() != was {
			t.Errorf("P10: Open(%.40x) = %d, want %d, and the root is the same: %v", c.root, err, c.err, x.Root() == was)
		}
		checkPairs(t, x, pair("oak", valued(40)), pair("yew", "hedge"))
		if told := x.Commit(); len(told) != 2 {
			t.Errorf("P10: Commit behind an Open that failed tells %q", told)
		}
		checkOpen(t, x, Hash(leaf))
		checkPairs(t, x, pair("a", "b"))
	}
	if err := newTree(t).Open(""); err != api.ErrMissing {
		t.Errorf("P10: Open of no byte over an empty store = %d", err)
	}
}

// TestWhatWasNotCommittedIsGone: with the tree, from the store too.
func TestWhatWasNotCommittedIsGone(t *testing.T) {
	x := treeOf(t, "oak", valued(40), "yew", valued(41))
	kept := x.Root()
	x.Commit()
	x.Put(pair("oak", valued(42)), pair("elm", valued(43)))
	gone := x.Root()
	checkOpen(t, x, kept)
	checkPairs(t, x, pair("oak", valued(40)), pair("yew", valued(41)))
	if _, err := x.Get("elm"); err != api.ErrNone {
		t.Errorf("P10: Get of what is gone = %d", err)
	}
	checkTold(t, "what was opened", x)
	if err := x.Open(gone); err != api.ErrMissing || x.Root() != kept {
		t.Errorf("P10: Open of what is gone = %d", err)
	}
	x.Put(pair("oak", valued(42)), pair("elm", valued(43)))
	if x.Root() != gone || len(x.Commit()) != 4 {
		t.Errorf("P10: what was gone is told when it is back")
	}
	checkOpen(t, x, kept)
	checkOpen(t, x, gone)
}

// brokenStores: of "ka", "kb", "kc" and "q", each with a leaf of its own, without
// the leaf of "ka" or with a wrong text for it.
func brokenStores(t *testing.T) (string, map[api.Errno][]api.Entry) {
	x := treeOf(t, "ka", valued(40), "kb", valued(41), "kc", valued(42), "q", valued(43))
	all := x.Commit()
	lost := slices.IndexFunc(all, func(e api.Entry) bool {
		return strings.HasSuffix(e.Text, "\xa8"+valued(40)) && len(e.Text) < 50
	})
	if lost < 0 {
		t.Fatalf("P10: the leaf is not told: %q", all)
	}
	wrong := slices.Clone(all)
	wrong[lost].Text = all[(lost+1)%len(all)].Text
	return x.Root(), map[api.Errno][]api.Entry{
		api.ErrMissing: slices.Delete(slices.Clone(all), lost, lost+1),
		api.ErrNode:    wrong,
	}
}

func TestCallsOverBrokenStores(t *testing.T) {
	root, stores := brokenStores(t)
	for want, store := range stores {
		x := newTree(t, store...)
		checkOpen(t, x, root)
		for key, err := range map[string]api.Errno{"ka": want, "kaa": want, "kb": api.OK, "q": api.OK, "k": api.ErrNone, "kd": api.ErrNone, "": api.ErrNone} {
			if _, e := x.Get(key); e != err {
				t.Errorf("P7: Get(%q) = %d, want %d", key, e, err)
			}
		}
		for _, c := range []struct {
			from string
			most int
			want int
			err  api.Errno
		}{{"", 0, 0, api.OK}, {"", 1, 0, want}, {"kaz", 1, 0, want}, {"kb", 9, 3, api.OK}, {"q", 9, 1, api.OK}, {"r", 9, 0, api.OK}} {
			if l, e := x.Each(c.from, c.most); len(l) != c.want || e != c.err {
				t.Errorf("P9: Each(%q, %d) = %q, %d, want %d, %d", c.from, c.most, l, e, c.want, c.err)
			}
		}
		for _, pairs := range [][]api.Pair{
			{pair("ka", "v")},
			{pair("kaa", "v")},
			{pair("ka", "")},
			{pair("kaa", "")},
			{pair("q", "v"), pair("new", "v"), pair("ka", "v")},
			{pair("kb", ""), pair("kc", "")},
			{pair("q", ""), pair("kb", ""), pair("kc", ""), pair("kd", "v")},
		} {
			if err := x.Put(pairs...); err != want || x.Root() != root {
				t.Errorf("P8: Put(%q) = %d, want %d, and the root is the same: %v", pairs, err, want, x.Root() == root)
			}
		}
		if err := x.Delete("kb", "kc"); err != want || x.Root() != root {
			t.Errorf("P8: Delete = %d, want %d, and the root is the same: %v", err, want, x.Root() == root)
		}
		checkTold(t, "what was refused", x)
		changeBesideTheLeaf(t, x, want)
	}
}

// changeBesideTheLeaf: what does not come to the leaf of "ka" is done.
func changeBesideTheLeaf(t *testing.T, x *Tree, want api.Errno) {
	t.Helper()
	if err := x.Delete("kb", "q", "none"); err != api.OK {
		t.Errorf("P8: Delete = %d", err)
	}
	if err := x.Put(pair("kc", "w"), pair("kz", valued(50))); err != api.OK {
		t.Errorf("P8: Put = %d", err)
	}
	whole := treeOf(t, "ka", valued(40), "kc", "w", "kz", valued(50))
	if x.Root() != whole.Root() {
		t.Errorf("P6: the root is %x, want %x", x.Root(), whole.Root())
	}
	told := x.Commit()
	if all := whole.Commit(); len(told) != len(all)-1 {
		t.Errorf("P10: %d of %d nodes are told", len(told), len(all))
	}
	checkOpen(t, x, whole.Root())
	if _, err := x.Get("ka"); err != want {
		t.Errorf("P7: Get = %d, want %d", err, want)
	}
	if l, err := x.Each("kb", 9); len(l) != 2 || err != api.OK {
		t.Errorf("P9: Each = %q, %d", l, err)
	}
}

func TestStoresKeepNothingOfArguments(t *testing.T) {
	x := treeOf(t, "a", valued(40), "q", valued(41))
	root := []byte(x.Root())
	told := x.Commit()
	own := slices.Clone(told)
	y := newTree(t, told...)
	if err := y.Open(unsafe.String(&root[0], len(root))); err != api.OK {
		t.Fatalf("P10: Open = %d", err)
	}
	clear(root)
	clear(told[:cap(told)])
	checkPairs(t, x, pair("a", valued(40)), pair("q", valued(41)))
	checkPairs(t, y, pair("a", valued(40)), pair("q", valued(41)))
	if y.Root() != x.Root() {
		t.Errorf("P2: the root that was handed in is kept")
	}
	checkTold(t, "what was told", x)
	checkOpen(t, x, y.Root())
	again := treeOf(t, "a", valued(40), "q", valued(41)).Commit()
	if !slices.Equal(again, own) {
		t.Errorf("P2: Commit tells %q, at first %q", again, own)
	}
}

// TestStoresAreApart: what one tree commits is in its own store alone.
func TestStoresAreApart(t *testing.T) {
	x, y := treeOf(t, "a", valued(40)), newTree(t)
	x.Commit()
	if err := y.Open(x.Root()); err != api.ErrMissing {
		t.Errorf("P2: Open of what another tree has = %d", err)
	}
}

// TestSameHoldings: the way to what a tree holds is not seen.
func TestSameHoldings(t *testing.T) {
	want := treeOf(t, "a", valued(40), "ab", valued(41), "q", "short", "", valued(400))
	told := want.Commit()
	for i, texts := range [][]string{
		{"", valued(400), "q", "short", "ab", valued(41), "a", valued(40)},
		{"a", "x", "ab", valued(41), "a", valued(40), "", "y", "q", "short", "", valued(400)},
		{"b", valued(50), "a", valued(40), "abc", "x", "ab", valued(41), "", valued(400), "b", "", "q", "short", "abc", ""},
		{"z", "1", "z", "", "a", valued(40), "a", "", "a", valued(40), "ab", valued(41), "q", "short", "", valued(400)},
	} {
		x := treeOf(t, texts...)
		if x.Root() != want.Root() {
			t.Errorf("P13: way %d: the root is %x, want %x", i, x.Root(), want.Root())
		}
		checkTold(t, fmt.Sprint("P13: way ", i), x, slices.Clone(told)...)
	}
	x := treeOf(t, "a", valued(40), "b", valued(41))
	if x.Root() == want.Root() || slices.Equal(x.Commit(), told) {
		t.Errorf("P13: two trees that hold something else are one")
	}
}

func TestExamplesOfRootsAreOpened(t *testing.T) {
	x := treeOf(t, "oak", "tree", "oar", "boat", "oaken", "door", "yew", "hedge")
	y := newTree(t, x.Commit()...)
	checkOpen(t, y, bytesOf(t, "368a647400308bdd1b8b7dba9c36f34ac07e01d5399672ac9ec80c7a3b0db590"))
	checkPairs(t, y, pair("oak", "tree"), pair("oaken", "door"), pair("oar", "boat"), pair("yew", "hedge"))
	y.Delete("oar", "oaken", "yew")
	checkRoot(t, y, "78d6cda490e7c39ad20460373d9fa33041169baf533804f2dc7234217dcb959a")
	checkTold(t, "one key", y, entryOf(bytesOf(t, "ca 84 20 6f 61 6b 84 74 72 65 65")))
}

// TestCommitOfAGreatTree: there are more nodes than New takes as entries.
func TestCommitOfAGreatTree(t *testing.T) {
	x := newTree(t)
	for i := range 3000 {
		x.Put(pair(Hash(fmt.Sprint(i)), valued(40)))
	}
	root := x.Root()
	if told := x.Commit(); len(told) < 3000 {
		t.Errorf("P10: %d nodes are told", len(told))
	}
	checkTold(t, "a great tree once more", x)
	x.Delete(Hash("0"))
	checkOpen(t, x, root)
	for i := range 3000 {
		if _, err := x.Get(Hash(fmt.Sprint(i))); err != api.OK {
			t.Fatalf("P7: Get = %d", err)
		}
	}
}
