package canopy

import (
	"fmt"
	"slices"
	"strings"
	"testing"
	"unsafe"

	"canopy/api"
)

func checkProof(t *testing.T, what string, x *Tree, key string, want ...string) {
	t.Helper()
	was := x.Root()
	if got, err := x.Prove(key); !slices.Equal(got, want) || err != api.OK {
		t.Errorf("P11: %s: Prove(%.20q) = %x, %d, want %x", what, key, got, err, want)
	}
	if x.Root() != was {
		t.Errorf("P11: %s: the root is another after Prove", what)
	}
}

// checkSaid: an empty value is that of a key which is not there.
func checkSaid(t *testing.T, what, root, key string, proof []string, value string) {
	t.Helper()
	if v, there, err := Verify(root, key, proof...); v != value || there != (value != "") || err != api.OK {
		t.Errorf("P12: %s: Verify(.., %.20q, %d texts) = %.20q, %v, %d, want %.20q", what, key, len(proof), v, there, err, value)
	}
}

func checkRefused(t *testing.T, what, root, key string, proof []string, want api.Errno) {
	t.Helper()
	if v, there, err := Verify(root, key, proof...); v != "" || there || err != want {
		t.Errorf("P12: %s: Verify(.., %.20q, %d texts) = %.20q, %v, %d, want %d", what, key, len(proof), v, there, err, want)
	}
}

// twinCodes: the codes of the tree of "ka" and "kb" with long values: an
// extension, its branch and two leaves.
func twinCodes(a, b string) (extension, fork, one, other string) {
	leaf := func(value string) string {
		return string([]byte{byte(192 + 2 + len(value)), 0x20, byte(128 + len(value))}) + value
	}
	one, other = leaf(a), leaf(b)
	fork = "\xf8\x51\x80" + hashed(one) + hashed(other) + strings.Repeat("\x80", 14)
	return "\xe4\x82\x16\xb6" + hashed(fork), fork, one, other
}

func TestProve(t *testing.T) {
	checkProof(t, "nothing", newTree(t), "")
	checkProof(t, "nothing", newTree(t), "a")

	oak := bytesOf(t, "ca 84 20 6f 61 6b 84 74 72 65 65")
	for _, key := range []string{"oak", "oa", "oaks", "elm", "", strings.Repeat("o", 64)} {
		checkProof(t, "a short root", treeOf(t, "oak", "tree"), key, oak)
	}
	inside := bytesOf(t, "d7 16 d5 80 c2 20 31 c2 20 32"+strings.Repeat(" 80", 14))
	for _, key := range []string{"a", "b", "c", "", "aa", "q"} {
		checkProof(t, "a branch inside", treeOf(t, "a", "1", "b", "2"), key, inside)
	}

	long, short := restCode(valued(29)), restCode(valued(28)) // 32 and 31 bytes
	fork := forkCode(hashed(long), short)
	x := treeOf(t, "a", valued(29), "q", valued(28))
	for _, key := range []string{"a", "b", "aa", "ab"} {
		checkProof(t, "a leaf of 32 bytes", x, key, fork, long)
	}
	for _, key := range []string{"q", "r", "qq", "1", "\x86", ""} {
		checkProof(t, "a leaf of 31 bytes", x, key, fork)
	}

	top, fork, one, other := twinCodes(valued(40), valued(41))
	x = treeOf(t, "ka", valued(40), "kb", valued(41))
	for key, want := range map[string][]string{
		"ka":  {top, fork, one},
		"kaa": {top, fork, one},
		"kb":  {top, fork, other},
		"kc":  {top, fork},
		"kq":  {top},
		"k":   {top},
		"j":   {top},
		"":    {top},
	} {
		checkProof(t, "an extension", x, key, want...)
	}
	if got, err := x.Prove(strings.Repeat("k", 65)); got != nil || err != api.ErrKey {
		t.Errorf("P11: Prove of too long a key = %q, %d", got, err)
	}
}

// TestProveOnTheWay: what is told is what the tree holds at the time, wherever
// it came from.
func TestProveOnTheWay(t *testing.T) {
	top, fork, one, other := twinCodes(valued(40), valued(41))
	x := newTree(t)
	check := func(what string) {
		t.Helper()
		checkProof(t, what, x, "ka", top, fork, one)
		checkProof(t, what, x, "kb", top, fork, other)
		checkProof(t, what, x, "kc", top, fork)
	}
	x.Put(pair("kb", valued(41)), pair("q", valued(50)), pair("ka", valued(50)))
	x.Put(pair("ka", valued(40)))
	x.Delete("q")
	check("what was put")
	x.Commit()
	check("what was committed")
	x.Put(pair("kc", valued(42)), pair("", "v"), pair("ka", ""))
	x.Put(pair("kc", ""), pair("", ""), pair("ka", valued(40)))
	check("what was put again")
	x.Delete("ka", "kb")
	checkProof(t, "what was deleted", x, "ka")
	checkOpen(t, x, Hash(top))
	check("what was opened")
	x.Put(pair("ka", valued(44)))
	top, fork, one, other = twinCodes(valued(44), valued(41))
	check("what was changed")
	x = newTree(t, x.Commit()...)
	checkOpen(t, x, Hash(top))
	if got, err := x.Prove("kb"); got != nil || err != api.ErrMissing {
		t.Errorf("P11: Prove of what another store has = %q, %d", got, err)
	}
	checkProof(t, "what was opened elsewhere", x, "ka", top, fork, one)
	checkProof(t, "what was opened elsewhere", x, "kc", top, fork)
	x.Delete("kc", "ka", "kb")
	checkProof(t, "what could not be deleted", x, "ka", top, fork, one)
}

func TestProveOverBrokenStores(t *testing.T) {
	top, fork, one, other := twinCodes(valued(40), valued(41))
	for _, c := range []struct {
		what  string
		store []api.Entry
		ka    api.Errno
		kb    api.Errno
		kc    api.Errno
	}{
		{"a whole store", []api.Entry{entryOf(top), entryOf(fork), entryOf(one), entryOf(other)}, api.OK, api.OK, api.OK},
		{"no leaf", []api.Entry{entryOf(top), entryOf(fork)}, api.ErrMissing, api.ErrMissing, api.OK},
		{"one leaf", []api.Entry{entryOf(top), entryOf(fork), entryOf(other)}, api.ErrMissing, api.OK, api.OK},
		{"no branch", []api.Entry{entryOf(top), entryOf(one), entryOf(other)}, api.ErrMissing, api.ErrMissing, api.ErrMissing},
		{"a wrong leaf", []api.Entry{entryOf(top), entryOf(fork), entryOf(other), {Name: Hash(one), Text: other}}, api.ErrNode, api.OK, api.OK},
		{"a wrong branch", []api.Entry{entryOf(top), entryOf(one), entryOf(other), {Name: Hash(fork), Text: fork + "\x80"}}, api.ErrNode, api.ErrNode, api.ErrNode},
	} {
		x := newTree(t, c.store...)
		checkOpen(t, x, Hash(top))
		for key, want := range map[string]api.Errno{"ka": c.ka, "kb": c.kb, "kc": c.kc, "kq": api.OK, "j": api.OK, "": api.OK} {
			got, err := x.Prove(key)
			if err != want || (got == nil) != (want != api.OK) {
				t.Errorf("P11: %s: Prove(%q) = %x, %d, want %d", c.what, key, got, err, want)
			}
		}
		if got, err := x.Prove(strings.Repeat("k", 65)); got != nil || err != api.ErrKey {
			t.Errorf("P11: %s: Prove of too long a key = %q, %d", c.what, got, err)
		}
	}
	// A node that can't stand there is as good as none.
	under := entryOf("\xe4\x82\x16\xb6" + hashed(one))
	x := newTree(t, under, entryOf(one))
	checkOpen(t, x, under.Name)
	if got, err := x.Prove("ka"); got != nil || err != api.ErrNode {
		t.Errorf("P11: Prove over a leaf under an extension = %q, %d", got, err)
	}
	checkRefused(t, "a leaf under an extension", under.Name, "ka", []string{under.Text, one}, api.ErrProof)
}

func TestVerify(t *testing.T) {
	top, fork, one, other := twinCodes(valued(40), valued(41))
	root := Hash(top)
	for _, c := range []struct {
		key   string
		proof []string
		value string
	}{
		{"ka", []string{top, fork, one}, valued(40)},
		{"kb", []string{top, fork, other}, valued(41)},
		{"kaa", []string{top, fork, one}, ""},
		{"kc", []string{top, fork}, ""},
		{"kq", []string{top}, ""},
		{"k", []string{top}, ""},
		{"", []string{top}, ""},
		{strings.Repeat("\xff", 64), []string{top}, ""},
	} {
		checkSaid(t, "an extension", root, c.key, c.proof, c.value)
		checkRefused(t, "no text", root, c.key, nil, api.ErrProof)
		for i := range c.proof {
			less := slices.Delete(slices.Clone(c.proof), i, i+1)
			checkRefused(t, "a text too few", root, c.key, less, api.ErrProof)
		}
		for i := range len(c.proof) + 1 {
			for _, s := range []string{"", "\x80", top, fork, one, other, "\xc2\x20v"} {
				more := slices.Insert(slices.Clone(c.proof), i, s)
				checkRefused(t, "a text too many", root, c.key, more, api.ErrProof)
			}
		}
		checkRefused(t, "another root", Hash(fork), c.key, c.proof, api.ErrProof)
		checkRefused(t, "a root of no text", Hash("x"), c.key, c.proof, api.ErrProof)
		checkRefused(t, "the root of the empty map", bytesOf(t, rootOfNone), c.key, c.proof, api.ErrProof)
	}
	for _, l := range [][]string{{fork, top, one}, {top, one, fork}, {one, fork, top}, {fork, one, top}, {one, top, fork}, {top, fork, other}, {top, top, one}, {top, fork, fork}} {
		checkRefused(t, "texts in another order", root, "ka", l, api.ErrProof)
	}
}

// TestVerifyOfChangedTexts: whichever byte is another one.
func TestVerifyOfChangedTexts(t *testing.T) {
	top, fork, one, _ := twinCodes(valued(40), valued(41))
	proof := []string{top, fork, one}
	for i, s := range proof {
		for k := range len(s) {
			for _, change := range []byte{1, 128, 255} {
				b := []byte(s)
				b[k] ^= change
				proof[i] = string(b)
				checkRefused(t, "a text that is changed", Hash(top), "ka", proof, api.ErrProof)
				if i == 0 { // then no hash leads on to the next text
					checkRefused(t, "a root that is changed", Hash(proof[0]), "ka", proof, api.ErrProof)
				}
			}
			proof[i] = s[:k]
			checkRefused(t, "a text that is cut", Hash(top), "ka", proof, api.ErrProof)
			checkRefused(t, "texts up to a cut one", Hash(top), "ka", proof[:i+1], api.ErrProof)
		}
		for _, more := range []string{"\x00", "\x80", s, valued(1 << 20)} {
			proof[i] = s + more
			checkRefused(t, "a text with more behind it", Hash(top), "ka", proof, api.ErrProof)
		}
		proof[i] = s
	}
	checkSaid(t, "the texts as they were", Hash(top), "ka", proof, valued(40))
}

func TestVerifyOfTheEmptyMap(t *testing.T) {
	none := bytesOf(t, rootOfNone)
	for _, key := range []string{"", "a", strings.Repeat("k", 64)} {
		checkSaid(t, "the empty map", none, key, nil, "")
		checkSaid(t, "the empty map", none, key, []string{}, "")
		for _, s := range []string{"", "\x80", none, "\xc2\x20v"} {
			checkRefused(t, "the empty map and a text", none, key, []string{s}, api.ErrProof)
		}
	}
	checkRefused(t, "the empty map", none, strings.Repeat("k", 65), nil, api.ErrKey)
}

func TestVerifyOfWrongArguments(t *testing.T) {
	leaf := "\xc2\x20v"
	root := Hash(leaf)
	checkSaid(t, "a leaf", root, "", []string{leaf}, "v")
	for _, wrong := range []string{"", "v", leaf, root[:31], root + "\x00", root[1:], root + root, strings.Repeat(root, 1<<15), "\x80", bytesOf(t, rootOfNone)[:31]} {
		checkRefused(t, "a wrong root", wrong, "", []string{leaf}, api.ErrProof)
		checkRefused(t, "a wrong root and no text", wrong, "", nil, api.ErrProof)
		checkRefused(t, "a wrong root and an empty text", wrong, "", []string{""}, api.ErrProof)
		checkRefused(t, "a wrong root and a long key", wrong, valued(65), []string{leaf}, api.ErrKey)
	}
	checkRefused(t, "a long key", root, valued(65), []string{leaf}, api.ErrKey)
	checkRefused(t, "a huge key", root, valued(1<<20), nil, api.ErrKey)
	checkRefused(t, "a huge list", root, "", slices.Repeat([]string{leaf}, 1<<20), api.ErrProof)
	huge := valued(1 << 24)
	checkRefused(t, "a huge text", root, "", []string{huge}, api.ErrProof)
	checkRefused(t, "a huge text behind", root, "", []string{leaf, huge}, api.ErrProof)
	for _, text := range []string{"", "v", "\x80", "\xc0", "\xc2\x31v", "\xc2\x20\x80", "\xc2\x00v", "\xc3\x20\x81v", leaf + "\x80", valued(6001)} {
		checkRefused(t, "a text that is no node", Hash(text), "", []string{text}, api.ErrProof)
	}
}

// TestVerifyLooksAtTheWholeText: a node that is wrong beside the path is no node.
func TestVerifyLooksAtTheWholeText(t *testing.T) {
	good := forkCode("\xc2\x31a", "\xc2\x31q")
	checkSaid(t, "two leaves", Hash(good), "a", []string{good}, "a")
	checkSaid(t, "two leaves", Hash(good), "1", []string{good}, "")
	for _, seven := range []string{"\xc2\x20q", "q", "\xc0", "\xc2\x31\x80", hashed("q")[1:], "\x9f" + Hash("q")[1:], restCode(valued(29)), "\x80"} {
		bad := forkCode("\xc2\x31a", seven)
		checkRefused(t, "a wrong node beside", Hash(bad), "a", []string{bad}, api.ErrProof)
	}
	// A leaf that would stand in its branch may not be named by its hash.
	short := restCode(valued(28))
	named := forkCode(hashed(short), "\xc2\x31q")
	checkRefused(t, "a short leaf by its hash", Hash(named), "a", []string{named, short}, api.ErrProof)
	checkSaid(t, "a short leaf by its hash beside", Hash(named), "q", []string{named}, "q")
}

// oaks: the document's map with values of many lengths, and keys beside it.
func oaks() (pairs []api.Pair, none []string) {
	return []api.Pair{pair("", valued(400)), pair("oak", "tree"), pair("oaken", valued(40)), pair("oar", "boat"), pair("yew", valued(30)), pair(strings.Repeat("y", 64), valued(33))},
		[]string{"o", "oa", "oake", "oaks", "oakens", "y", "z", "\x00", strings.Repeat("y", 63), strings.Repeat("o", 64)}
}

// TestProofsVerify: what Prove tells says what Get tells, under this root and
// for this key alone.
func TestProofsVerify(t *testing.T) {
	pairs, none := oaks()
	x := newTree(t)
	x.Put(pairs...)
	y := treeOf(t, "oak", "wood", "elm", valued(40))
	for _, p := range pairs {
		none = append(none, p.Key)
	}
	for _, key := range none {
		proof, err := x.Prove(key)
		if err != api.OK {
			t.Fatalf("P11: Prove(%q) = %d", key, err)
		}
		value, _ := x.Get(key)
		checkSaid(t, "what was proved", x.Root(), key, proof, value)
		checkRefused(t, "what was proved of another map", y.Root(), key, proof, api.ErrProof)
		for _, other := range none {
			value, _ := x.Get(other)
			v, there, err := Verify(x.Root(), other, proof...)
			if err == api.OK && (v != value || there != (value != "")) || err != api.OK && (err != api.ErrProof || v != "" || there) {
				t.Errorf("P13: the proof of %q says of %q: %q, %v, %d", key, other, v, there, err)
			}
		}
	}
}

func TestExamplesOfRootsAreProved(t *testing.T) {
	const four = "368a647400308bdd1b8b7dba9c36f34ac07e01d5399672ac9ec80c7a3b0db590"
	x := treeOf(t, "oak", "tree", "oar", "boat", "oaken", "door", "yew", "hedge")
	for _, p := range []api.Pair{pair("oak", "tree"), pair("oar", "boat"), pair("oaken", "door"), pair("yew", "hedge"), pair("elm", ""), pair("oa", "")} {
		proof, err := x.Prove(p.Key)
		if err != api.OK {
			t.Errorf("P11: Prove(%q) = %d", p.Key, err)
		}
		checkSaid(t, "four keys", bytesOf(t, four), p.Key, proof, p.Value)
	}
	const one = "78d6cda490e7c39ad20460373d9fa33041169baf533804f2dc7234217dcb959a"
	leaf := bytesOf(t, "ca 84 20 6f 61 6b 84 74 72 65 65")
	checkSaid(t, "one key", bytesOf(t, one), "oak", []string{leaf}, "tree")
	checkSaid(t, "one key", bytesOf(t, one), "oar", []string{leaf}, "")
}

// shares tells whether two texts have memory in common.
func shares(a, b string) bool {
	if a == "" || b == "" {
		return false
	}
	begin := func(s string) uintptr { return uintptr(unsafe.Pointer(unsafe.StringData(s))) }
	return begin(a) < begin(b)+uintptr(len(b)) && begin(b) < begin(a)+uintptr(len(a))
}

func TestProofsKeepNothingOfArguments(t *testing.T) {
	top, fork, one, other := twinCodes(valued(40), valued(41))
	bytes := []byte(one)
	proof := []string{top, fork, unsafe.String(&bytes[0], len(bytes)), other}
	own := []string{top, fork, one, other}
	value, there, err := Verify(Hash(top), "ka", proof[:3]...)
	if value != valued(40) || !there || err != api.OK {
		t.Fatalf("P12: Verify = %q, %v, %d", value, there, err)
	}
	if !slices.Equal(proof, own) {
		t.Errorf("P2: the proof is changed")
	}
	if shares(value, proof[2]) {
		t.Errorf("P2: the value is a piece of the proof")
	}
	clear(bytes)
	if value != valued(40) {
		t.Errorf("P2: the value is %q when the proof is gone", value)
	}
	checkRefused(t, "the proof that is gone", Hash(top), "ka", proof[:3], api.ErrProof)
	checkSaid(t, "the proof as it was", Hash(top), "ka", own[:3], valued(40))
}

func TestAnswersOfProofsAreNew(t *testing.T) {
	pairs, _ := oaks()
	x := newTree(t)
	x.Put(pairs...)
	told := x.Commit()
	for i := range 2 {
		first, _ := x.Prove("oaken")
		second, _ := x.Prove("oaken")
		if len(first) < 2 || !slices.Equal(first, second) {
			t.Fatalf("P2: Prove = %q, at first %q", second, first)
		}
		all := slices.Concat(first, second)
		for _, e := range told {
			all = append(all, e.Text, e.Name)
		}
		for k, s := range all[:len(first)+len(second)] {
			for _, other := range all[k+1:] {
				if shares(s, other) {
					t.Errorf("P2: two texts are one (%d)", i)
				}
			}
		}
		clear(first[:cap(first)])
		if again, err := x.Prove("oaken"); err != api.OK || !slices.Equal(again, second) {
			t.Errorf("P2: Prove = %q, %d, at first %q", again, err, second)
		}
		checkOpen(t, x, x.Root())
	}
}

// TestProofsOfAGreatTree: they are as short as the key's path.
func TestProofsOfAGreatTree(t *testing.T) {
	x := newTree(t)
	var pairs []api.Pair
	for i := range 700 {
		pairs = append(pairs, pair(Hash(fmt.Sprint(i)), valued(1+i%400)))
	}
	x.Put(pairs...)
	root := x.Root()
	for range 2 {
		for i, p := range pairs {
			proof, err := x.Prove(p.Key)
			if err != api.OK || len(proof) < 2 || len(proof) > 8 {
				t.Fatalf("P11: Prove = %d texts, %d", len(proof), err)
			}
			checkSaid(t, "a great tree", root, p.Key, proof, p.Value)
			checkRefused(t, "a great tree", root, pairs[(i+1)%len(pairs)].Key, proof, api.ErrProof)
		}
		x.Commit()
		checkOpen(t, x, root)
	}
}

// TestDeepestProof: a node at every number of the longest key.
func TestDeepestProof(t *testing.T) {
	longest := strings.Repeat("\x11", 64)
	x := treeOf(t, longest, valued(400))
	for i := range 64 {
		x.Put(pair(longest[:i]+"\x01", valued(100)), pair(longest[:i]+"\x12", valued(200)), pair(longest[:i], valued(300)))
	}
	proof, err := x.Prove(longest)
	if err != api.OK || len(proof) != 129 {
		t.Fatalf("P11: Prove = %d texts, %d", len(proof), err)
	}
	checkSaid(t, "the longest key", x.Root(), longest, proof, valued(400))
	checkRefused(t, "the longest key", x.Root(), longest, proof[:128], api.ErrProof)
	checkRefused(t, "the longest key", x.Root(), longest, append(slices.Clone(proof), proof[128]), api.ErrProof)
	checkSaid(t, "the key above it", x.Root(), longest[:63], proof[:127], valued(300))
	checkRefused(t, "the key above it", x.Root(), longest[:63], proof[:126], api.ErrProof)
	checkRefused(t, "the key above it", x.Root(), longest[:63], proof[:128], api.ErrProof)
}
