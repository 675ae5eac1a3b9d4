package canopy

import (
	"fmt"
	"slices"
	"strings"
	"testing"
	"unsafe"

	"canopy/api"
)

const rootOfNone = "56e81f171bcc55a6ff8345e692c0f86e5b48e01b996cadc001622fb5e363b421"

func newTree(t *testing.T, store ...api.Entry) *Tree {
	t.Helper()
	x, err := New(store...)
	if x == nil || err != api.OK {
		t.Fatalf("P6: New of %d entries = %v, %d", len(store), x, err)
	}
	return x
}

func pair(key, value string) api.Pair { return api.Pair{Key: key, Value: value} }

// treeOf tells a tree of keys and values in turn.
func treeOf(t *testing.T, texts ...string) *Tree {
	t.Helper()
	x := newTree(t)
	for i := 0; i < len(texts); i += 2 {
		if err := x.Put(pair(texts[i], texts[i+1])); err != api.OK {
			t.Fatalf("P8: Put(%q) = %d", texts[i:i+2], err)
		}
	}
	return x
}

func checkRoot(t *testing.T, x *Tree, want string) {
	t.Helper()
	if root := x.Root(); root != bytesOf(t, want) {
		t.Errorf("P6: Root() = %x, want %s", root, want)
	}
}

func manyEntries(n int) []api.Entry {
	var l []api.Entry
	for i := range n {
		l = append(l, api.Entry{Name: fmt.Sprint(i), Text: "x"})
	}
	return l
}

func TestNew(t *testing.T) {
	checkRoot(t, newTree(t), rootOfNone)
	checkRoot(t, newTree(t, manyEntries(1000)...), rootOfNone)
	newTree(t, api.Entry{}, api.Entry{Name: "a"}, api.Entry{Name: "a\x00"})
	same := slices.Repeat([]api.Entry{{Name: "same"}}, 1001)
	for _, c := range []struct {
		store []api.Entry
		err   api.Errno
	}{
		{manyEntries(1001), api.ErrLong},
		{same, api.ErrLong},
		{same[:1000], api.ErrStore},
		{append(manyEntries(999), api.Entry{Name: "0", Text: "y"}), api.ErrStore},
		{[]api.Entry{{}, {}}, api.ErrStore},
	} {
		if x, err := New(c.store...); x != nil || err != c.err {
			t.Errorf("P6: New of %d entries = %v, %d, want %d", len(c.store), x, err, c.err)
		}
	}
}

func TestRoot(t *testing.T) {
	x := treeOf(t, "oak", "tree")
	checkRoot(t, x, "78d6cda490e7c39ad20460373d9fa33041169baf533804f2dc7234217dcb959a")
	const four = "368a647400308bdd1b8b7dba9c36f34ac07e01d5399672ac9ec80c7a3b0db590"
	checkRoot(t, treeOf(t, "oak", "tree", "oar", "boat", "oaken", "door", "yew", "hedge"), four)
	checkRoot(t, treeOf(t, "yew", "hedge", "oaken", "door", "oak", "wood", "elm", "tree", "oar", "boat", "oak", "tree", "elm", ""), four)
	if err := x.Delete("oak"); err != api.OK {
		t.Errorf("P8: Delete = %d", err)
	}
	checkRoot(t, x, rootOfNone)
}

func TestGet(t *testing.T) {
	longest, value := strings.Repeat("k", 64), strings.Repeat("v", 400)
	x := treeOf(t, "oak", "tree", "oaken", "door", "", "root", longest, value, "\xff", "\x00")
	for _, c := range []struct {
		key, value string
		err        api.Errno
	}{
		{"oak", "tree", api.OK},
		{"oaken", "door", api.OK},
		{"", "root", api.OK},
		{longest, value, api.OK},
		{"\xff", "\x00", api.OK},
		{"oa", "", api.ErrNone},
		{"oake", "", api.ErrNone},
		{"oaks", "", api.ErrNone},
		{"o", "", api.ErrNone},
		{"\x00", "", api.ErrNone},
		{longest[1:], "", api.ErrNone},
		{longest + "k", "", api.ErrKey},
		{strings.Repeat("k", 1<<20), "", api.ErrKey},
	} {
		if v, err := x.Get(c.key); v != c.value || err != c.err {
			t.Errorf("P7: Get(%.20q) = %.20q, %d, want %.20q, %d", c.key, v, err, c.value, c.err)
		}
	}
	if v, err := newTree(t).Get(""); v != "" || err != api.ErrNone {
		t.Errorf("P7: Get of the empty tree = %q, %d", v, err)
	}
}

func TestChangesThatAreRefused(t *testing.T) {
	x := treeOf(t, "a", "1", "b", "2")
	was := x.Root()
	long, big := strings.Repeat("k", 65), strings.Repeat("v", 401)
	for _, c := range []struct {
		pairs []api.Pair
		err   api.Errno
	}{
		{[]api.Pair{pair("a", "3"), pair(long, "x")}, api.ErrKey},
		{[]api.Pair{pair("a", ""), pair(long, "")}, api.ErrKey},
		{[]api.Pair{pair("a", "3"), pair("c", big)}, api.ErrValue},
		{[]api.Pair{pair("c", big), pair(long, "x")}, api.ErrKey},
		{[]api.Pair{pair(long, big)}, api.ErrKey},
		{[]api.Pair{pair("c", strings.Repeat("v", 1<<20))}, api.ErrValue},
		{nil, api.OK},
		{[]api.Pair{pair("c", "")}, api.OK},
		{[]api.Pair{pair("a", "1")}, api.OK},
		{[]api.Pair{pair("a", "3"), pair("a", "1")}, api.OK},
		{[]api.Pair{pair("a", ""), pair("a", "1")}, api.OK},
		{[]api.Pair{pair("c", "3"), pair("c", "")}, api.OK},
	} {
		if err := x.Put(c.pairs...); err != c.err || x.Root() != was {
			t.Errorf("P8: Put(%.60v) = %d, want %d, and the root is the same: %v", c.pairs, err, c.err, x.Root() == was)
		}
	}
	for _, c := range []struct {
		keys []string
		err  api.Errno
	}{
		{[]string{"a", long}, api.ErrKey},
		{[]string{long, "a"}, api.ErrKey},
		{nil, api.OK},
		{[]string{"", "c", "aa", long[:64]}, api.OK},
	} {
		if err := x.Delete(c.keys...); err != c.err || x.Root() != was {
			t.Errorf("P8: Delete(%.60v) = %d, want %d, and the root is the same: %v", c.keys, err, c.err, x.Root() == was)
		}
	}
}

// TestDelete: a tree that has lost keys is that of the keys that are left.
func TestDelete(t *testing.T) {
	for _, c := range []struct{ before, gone, after string }{
		{"a", "a", ""},
		{"a b", "a", "b"},
		{"a b", "b", "a"},
		{"a ab", "a", "ab"},
		{"a ab", "ab", "a"},
		{"a ab ac", "ab", "a ac"},
		{"a ab ac", "a", "ab ac"},
		{"a ab ac q", "q", "a ab ac"},
		{"ab ac q", "q", "ab ac"},
		{"ab ac q", "ac", "ab q"},
		{"abc abd abx q", "abx", "abc abd q"},
		{"abc abd abx q", "abx abd", "abc q"},
		{"abc abd abx q", "abx abd q", "abc"},
		{"abc abd abx q", "x ab abcd", "abc abd abx q"},
		{"abc abd abx q", "q q abc abc abd abx", ""},
	} {
		x, want := newTree(t), newTree(t)
		for _, key := range strings.Fields(c.before) {
			x.Put(pair(key, "value of "+key))
		}
		for _, key := range strings.Fields(c.after) {
			want.Put(pair(key, "value of "+key))
		}
		if err := x.Delete(strings.Fields(c.gone)...); err != api.OK || x.Root() != want.Root() {
			t.Errorf("P8: %q without %q: %d, and the root is that of %q: %v", c.before, c.gone, err, c.after, x.Root() == want.Root())
		}
	}
}

func TestEach(t *testing.T) {
	x := newTree(t)
	var all []api.Pair
	for i := range 150 {
		all = append(all, pair(fmt.Sprintf("%03d", i), fmt.Sprint("v", i)))
	}
	backwards := slices.Clone(all)
	slices.Reverse(backwards)
	if err := x.Put(backwards...); err != api.OK {
		t.Fatalf("P8: Put = %d", err)
	}
	const greatest = int(^uint(0) >> 1)
	for _, c := range []struct {
		from        string
		most        int
		first, want int
	}{
		{"", 3, 0, 3},
		{"", 100, 0, 100},
		{"", 101, 0, 100},
		{"", greatest, 0, 100},
		{"", 0, 0, 0},
		{"", -1, 0, 0},
		{"", -greatest - 1, 0, 0},
		{"100", 100, 100, 50},
		{"100", 1, 100, 1},
		{"100\x00", 1, 101, 1},
		{"10", 2, 100, 2},
		{"0\xff", 2, 100, 2},
		{"149", 5, 149, 1},
		{"149\x00", 5, 0, 0},
		{"\xff", 5, 0, 0},
		{"09" + strings.Repeat("9", 62), 5, 100, 5},
		{"09" + strings.Repeat("9", 63), 5, 100, 5},
		{"09" + strings.Repeat("9", 1<<20), 5, 100, 5},
		{strings.Repeat("\xff", 1<<20), 5, 0, 0},
	} {
		got, err := x.Each(c.from, c.most)
		if want := all[c.first : c.first+c.want]; err != api.OK || !slices.Equal(got, want) {
			t.Errorf("P9: Each(%.10q, %d) = %q, %d, want %q", c.from, c.most, got, err, want)
		}
	}
	if got, err := newTree(t).Each("", 5); got != nil || err != api.OK {
		t.Errorf("P9: Each of the empty tree = %q, %d", got, err)
	}
}

// TestEachAroundTheLongestKeys: a text that is longer than every key lies
// between two of them.
func TestEachAroundTheLongestKeys(t *testing.T) {
	z, f := strings.Repeat("\x00", 63), strings.Repeat("\xff", 63)
	keys := []string{"", z, z + "\x00", z + "\xff", "\x01", f, f + "\xfe", f + "\xff"}
	x := newTree(t)
	for _, key := range keys {
		x.Put(pair(key, "v"))
	}
	for _, c := range []struct {
		from string
		next int
	}{
		{z + "\x00\x00", 3},
		{z + "\x01\xff", 3},
		{z + "\xfe\xff", 3},
		{z + "\xff\x00", 4},
		{z + "\xff\xff", 4},
		{"\x01" + z + "\xff", 5},
		{f + "\xfe\x00", 7},
		{f + "\xff", 7},
		{f + "\xff\x00", 8},
		{f + "\xff\xff", 8},
	} {
		var got []string
		pairs, err := x.Each(c.from, 9)
		for _, p := range pairs {
			got = append(got, p.Key)
		}
		if want := keys[c.next:]; err != api.OK || !slices.Equal(got, want) {
			t.Errorf("P9: Each(%x) = %x, %d, want %x", c.from, got, err, want)
		}
	}
}

func TestTreesKeepNothingOfArguments(t *testing.T) {
	store := []api.Entry{{Name: "a", Text: "1"}, {Name: "b", Text: "2"}}
	pairs := []api.Pair{pair("oak", "tree"), pair("oar", "boat"), pair("elm", "wood")}
	keys := []string{"oak", "elm", "oar"}
	ownStore, ownPairs, ownKeys := slices.Clone(store), slices.Clone(pairs), slices.Clone(keys)
	x := newTree(t, store[:1]...)
	x.Put(pairs[:2]...)
	x.Delete(keys[:1]...)
	if !slices.Equal(store, ownStore) || !slices.Equal(pairs, ownPairs) || !slices.Equal(keys, ownKeys) {
		t.Errorf("P2: %v, %v or %v is changed", store, pairs, keys)
	}
	was := x.Root()
	clear(store)
	clear(pairs)
	clear(keys)
	if x.Root() != was {
		t.Errorf("P2: what was handed in is kept")
	}
}

func TestAnswersOfTreesAreNew(t *testing.T) {
	value := strings.Clone("a value that is long enough to be seen")
	x := treeOf(t, "a", value, "b", value)
	one, _ := x.Get("a")
	two, _ := x.Get("a")
	first, _ := x.Each("", 9)
	second, _ := x.Each("", 9)
	texts := []string{value, one, two, first[0].Value, first[1].Value, second[0].Value}
	for i := range texts {
		for k := range i {
			if unsafe.StringData(texts[i]) == unsafe.StringData(texts[k]) {
				t.Errorf("P2: the texts %d and %d are one", k, i)
			}
		}
	}
	clear(first[:cap(first)])
	if again, err := x.Each("", 9); err != api.OK || !slices.Equal(again, second) || len(again) != 2 {
		t.Errorf("P2: Each = %q, %d, at first %q", again, err, second)
	}
}

func TestTreesAreApart(t *testing.T) {
	x, y := treeOf(t, "a", "1"), treeOf(t, "a", "1")
	x.Put(pair("b", "2"))
	if _, err := y.Get("b"); err != api.ErrNone {
		t.Errorf("P2: a key of one tree is in another: %d", err)
	}
	y.Put(pair("b", "2"))
	if x.Root() != y.Root() {
		t.Errorf("P6: two trees that hold the same have two roots")
	}
}

func TestTreeOfManyKeys(t *testing.T) {
	x, y := newTree(t), newTree(t)
	var pairs []api.Pair
	for i := range 20000 {
		pairs = append(pairs, pair(Hash(fmt.Sprint(i)), fmt.Sprint(i)))
	}
	if err := x.Put(pairs...); err != api.OK {
		t.Fatalf("P8: Put = %d", err)
	}
	root := x.Root()
	slices.Reverse(pairs)
	if err := y.Put(pairs...); err != api.OK || y.Root() != root {
		t.Errorf("P6: the order of the keys is seen in the root (%d)", err)
	}
	for _, p := range pairs[100:] {
		if err := x.Delete(p.Key); err != api.OK {
			t.Fatalf("P8: Delete = %d", err)
		}
	}
	slices.SortFunc(pairs[:100], func(a, b api.Pair) int { return strings.Compare(a.Key, b.Key) })
	if got, err := x.Each("", 100); err != api.OK || !slices.Equal(got, pairs[:100]) {
		t.Errorf("P9: Each of the keys that are left = %q, %d", got, err)
	}
}
