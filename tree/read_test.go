package tree

import (
	"slices"
	"strings"
	"testing"

	"canopy/api"
	"canopy/keccak"
)

func zeros(n int) string { return strings.Repeat("\x00", n) }

func ones(n int) string { return strings.Repeat("\x01", n) }

func entry(code string) api.Entry { return api.Entry{Name: keccak.Sum(code), Text: code} }

// chain tells a tree, by its root and its entries, that has a text at so many
// numbers 0: under an extension or a branch, or as its root.
func chain(code string, above string, depth int) (string, []api.Entry) {
	entries := []api.Entry{entry(code)}
	over := func(code string) { entries = append(entries, entry(code)) }
	root := func() string { return entries[len(entries)-1].Name }
	if above == "branch" {
		over(branchCode("", map[int]string{0: text(root()), 1: text(h), 2: text(h)}))
		depth--
	}
	if depth > 0 {
		over(extensionCode(zeros(depth), text(root())))
	}
	return root(), entries
}

// readAt tells what comes of going 128 numbers 0 to a text, in each of the
// calls that do: OK, if it is read.
func readAt(t *testing.T, code string, above string, depth int) api.Errno {
	t.Helper()
	root, entries := chain(code, above, depth)
	x := opened(t, root, entries...)
	key := string(make([]byte, 64))
	_, err := x.Get(key)
	if err == api.ErrNone {
		err = api.OK
	}
	if e := x.Put(api.Pair{Key: key, Value: "v"}); e != err {
		t.Errorf("P8: Put comes to %d where Get comes to %d: %.200x", e, err, code)
	}
	x = opened(t, root, entries...)
	if e := x.Delete(key); e != err {
		t.Errorf("P8: Delete comes to %d where Get comes to %d: %.200x", e, err, code)
	}
	if _, e := x.Each(key[:depth/2], 1); err == api.ErrNode && e != err {
		t.Errorf("P9: Each comes to %d where Get comes to %d: %.200x", e, err, code)
	}
	checkOpen(t, root, entries, depth, err)
	checkProof(t, root, entries, err)
	return err
}

// checkProof: the texts down to the one that is looked at are the proof, if it
// can be read.
func checkProof(t *testing.T, root string, entries []api.Entry, err api.Errno) {
	t.Helper()
	key := string(make([]byte, 64))
	var proof []string
	for _, e := range slices.Backward(entries) {
		proof = append(proof, e.Text)
	}
	value, want, e := "", proof, api.OK
	if err != api.OK {
		want, e = nil, api.ErrProof
	} else if v, missed := opened(t, root, entries...).Get(key); missed == api.OK {
		value = v
	}
	if got, e := opened(t, root, entries...).Prove(key); !slices.Equal(got, want) || e != err {
		t.Errorf("P11: Prove = %.200q, %d, want %.200q, %d", got, e, want, err)
	}
	if v, there, got := Verify(root, key, proof...); v != value || there != (value != "") || got != e {
		t.Errorf("P12: Verify = %.200q, %v, %d, want %.200q, %d: %.200x", v, there, got, value, e, entries[0].Text)
	}
}

// checkOpen: what can't be read refuses the tree only if it is the root.
func checkOpen(t *testing.T, root string, entries []api.Entry, depth int, err api.Errno) {
	t.Helper()
	if depth > 0 {
		err = api.OK
	}
	x := empty(t, entries...)
	was := x.Root()
	if e := x.Open(root); e != err {
		t.Errorf("P10: Open = %d, want %d: %.200x", e, err, entries[0].Text)
	}
	if now := x.Root(); err == api.OK && now != root || err != api.OK && now != was {
		t.Errorf("P10: the root is %x after Open: %.200x", now, entries[0].Text)
	}
	if told := x.Commit(); told != nil {
		t.Errorf("P10: Commit tells %q of what is opened", told)
	}
}

const h = "hashhashhashhashhashhashhashhash" // of nothing that a store has

var long = strings.Repeat("v", 40)

// two: a branch's references to two leaves that hold the rest of a path.
func two(rest string) map[int]string {
	return map[int]string{1: leafCode(rest, "v"), 2: leafCode(rest, "w")}
}

func refsTo(code string) map[int]string { return map[int]string{1: code, 2: text(h)} }

func TestTextsThatAreNodes(t *testing.T) {
	for _, c := range []struct {
		what, code, above string
		depth             int
	}{
		{"a short leaf at the root", leafCode("", "v"), "", 0},
		{"a leaf of the longest path and value", leafCode(ones(128), strings.Repeat("v", 400)), "", 0},
		{"a leaf of a byte from 128 on", leafCode(ones(2), "\x80"), "", 0},
		{"a leaf at an odd depth", leafCode(ones(1), long), "branch", 1},
		{"a leaf at an even depth", leafCode(ones(2), long), "branch", 2},
		{"a leaf of 32 bytes", leafCode(ones(1), strings.Repeat("v", 29)), "branch", 1},
		{"a leaf that goes to the deepest", leafCode(ones(125), long), "branch", 3},
		{"a leaf at the deepest", leafCode("", long), "branch", 128},
		{"an extension to a hash", extensionCode(ones(1), text(h)), "", 0},
		{"an extension to a hash under a branch", extensionCode(ones(1), text(h)), "branch", 1},
		{"an extension to a branch inside", extensionCode(ones(1), branchCode("", two("\x03\x03\x03\x03"))), "", 0},
		{"an extension to a branch inside, of a value", extensionCode(ones(2), branchCode("v", map[int]string{1: leafCode("\x03", "v")})), "", 0},
		{"an extension that goes to the deepest", extensionCode(ones(128), text(h)), "", 0},
		{"a branch of two leaves", branchCode("", two("\x03")), "", 0},
		{"a branch of a leaf and a value", branchCode("v", map[int]string{15: leafCode("\x03", "v")}), "", 0},
		{"a branch of two hashes", branchCode("", map[int]string{14: text(h), 15: text(h)}), "", 0},
		{"a branch of the longest value", branchCode(strings.Repeat("v", 400), map[int]string{15: text(h)}), "", 0},
		{"a branch under an extension", branchCode("", map[int]string{1: text(h), 2: text(h)}), "extension", 3},
		{"a branch of a value at an even depth", branchCode("v", map[int]string{1: text(h)}), "extension", 4},
		{"a branch of a leaf of 31 bytes", branchCode("", refsTo(leafCode(ones(1), strings.Repeat("v", 28)))), "", 0},
		{"a branch of an extension inside", branchCode("", refsTo(extensionCode(ones(1), branchCode("", two(ones(1)))))), "", 0},
		{"a branch at the deepest", branchCode("", map[int]string{1: leafCode("", long[:27]), 2: text(h)}), "extension", 127},
		{"a branch of more parts than an item may have", crowded(), "", 0},
	} {
		if err := readAt(t, c.code, c.above, c.depth); err != api.OK {
			t.Errorf("P7: %s is read with %d: %x", c.what, err, c.code)
		}
	}
}

// crowded: a branch of 16 branches inside, 482 parts in all.
func crowded() string {
	six := map[int]string{}
	for i := range 6 {
		six[i] = leafCode("", "v")
	}
	refs := map[int]string{}
	for i := range 16 {
		refs[i] = branchCode("", six)
	}
	return branchCode("", refs)
}

func TestTextsThatAreNoNodes(t *testing.T) {
	a, b := leafCode("\x03", "v"), leafCode("\x04", "w")
	codes17 := func(last ...string) string {
		l := []string{a, b}
		for range 14 {
			l = append(l, text(""))
		}
		return list(append(l, last...)...)
	}
	for _, c := range []struct {
		what, code, above string
		depth             int
	}{
		{"no byte", "", "", 0},
		{"bytes", text("leaf"), "", 0},
		{"bytes of a leaf's code", text(leafCode("", "v")), "", 0},
		{"a leaf with more behind it", leafCode("", "v") + "\x80", "", 0},
		{"a leaf that ends too early", leafCode("", "vv")[:3], "", 0},
		{"a leaf in a long form", "\xf8\x04" + leafCode("", "vv")[1:], "", 0},
		{"a leaf whose value has a long form", "\xc3\x20\x81v", "", 0},
		{"a leaf whose value goes beyond it", "\xc3\x20\x82v", "", 0},
		{"an empty list", list(), "", 0},
		{"a list of one", list(text("\x20")), "", 0},
		{"a list of three", list(text("\x20"), text("v"), text("")), "", 0},
		{"a list of 16", codes17(), "", 0},
		{"a list of 18", codes17(text(""), text("")), "", 0},
		{"a path that is a list", list(list(text("\x20")), text("v")), "", 0},
		{"a path that is empty", list(text(""), text("v")), "", 0},
		{"a path that is no code", list(text("\x40"), text("v")), "", 0},
		{"a path that is not filled up", list(text("\x21"), text("v")), "", 0},
		{"a path that is too long", leafCode(ones(130), "v"), "", 0},

		{"a leaf without a value", leafCode("", ""), "", 0},
		{"a leaf of too long a value", leafCode("", strings.Repeat("v", 401)), "", 0},
		{"a leaf of a list", list(text("\x20"), list()), "", 0},
		{"a leaf of an odd path", leafCode(ones(1), "v"), "", 0},
		{"a leaf of an even path at an odd depth", leafCode(ones(2), long), "branch", 1},
		{"a leaf that goes too deep", leafCode(ones(128), long), "branch", 2},
		{"a leaf of 31 bytes below the root", leafCode(ones(1), strings.Repeat("v", 28)), "branch", 1},
		{"a leaf under an extension", leafCode(ones(1), long), "extension", 1},

		{"an extension without a path", extensionCode("", text(h)), "", 0},
		{"an extension to nothing", extensionCode(ones(1), text("")), "", 0},
		{"an extension to 31 bytes", extensionCode(ones(1), text(h[1:])), "", 0},
		{"an extension to 33 bytes", extensionCode(ones(1), text(h+"h")), "", 0},
		{"an extension to a leaf inside", extensionCode(ones(1), leafCode("\x03", "v")), "", 0},
		{"an extension to an extension inside", extensionCode(ones(1), extensionCode(ones(1), branchCode("", two(ones(1))))), "", 0},
		{"an extension to a branch of 32 bytes inside", extensionCode(ones(2), branchCode("vvvvvvvvvvvv", map[int]string{1: leafCode("\x03", "v")})), "", 0},
		{"an extension to a branch of one leaf inside", extensionCode(ones(2), branchCode("", map[int]string{1: leafCode("\x03", "v")})), "", 0},
		{"an extension to a branch inside, of a value at an odd depth", extensionCode(ones(1), branchCode("v", map[int]string{1: leafCode("", "v")})), "", 0},
		{"an extension to an extension", extensionCode(ones(1), text(h)), "extension", 3},
		{"an extension that goes too deep", extensionCode(ones(128), text(h)), "branch", 1},
		{"an extension to a branch inside that goes too deep", extensionCode(ones(128), branchCode("", two(""))), "", 0},
		{"an extension of 31 bytes below the root", extensionCode(ones(1), branchCode("", map[int]string{1: leafCode(ones(1), "vvvv"), 2: leafCode(ones(1), "www")})), "branch", 1},

		{"a branch of nothing", branchCode("", nil), "", 0},
		{"a branch of one leaf", branchCode("", map[int]string{1: a}), "", 0},
		{"a branch of one hash", branchCode("", map[int]string{1: text(h)}), "", 0},
		{"a branch of a value alone", branchCode("v", nil), "", 0},
		{"a branch whose value is a list", codes17(a), "", 0},
		{"a branch of too long a value", branchCode(strings.Repeat("v", 401), map[int]string{1: a}), "", 0},
		{"a branch of a value at an odd depth", branchCode("v", map[int]string{1: text(h)}), "extension", 3},
		{"a branch of 31 bytes for a reference", branchCode("", map[int]string{1: a, 2: text(h[1:])}), "", 0},
		{"a branch of 33 bytes for a reference", branchCode("", map[int]string{1: a, 2: text(h + "h")}), "", 0},
		{"a branch of one byte for a reference", branchCode("", map[int]string{1: a, 2: text("v")}), "", 0},
		{"a branch of an empty list", branchCode("", refsTo(list())), "", 0},
		{"a branch of no node inside", branchCode("", refsTo(list(text("\x40"), text("v")))), "", 0},
		{"a branch of a leaf of 32 bytes inside", branchCode("", refsTo(leafCode(ones(1), strings.Repeat("v", 29)))), "", 0},
		{"a branch of two and a leaf of 32 bytes inside", branchCode("", map[int]string{1: a, 2: b, 3: leafCode(ones(1), strings.Repeat("v", 29))}), "", 0},
		{"a branch of a leaf inside, of a value at an odd depth", branchCode("", refsTo(leafCode("", "v"))), "", 0},
		{"a branch of an extension inside, to a leaf", branchCode("", refsTo(extensionCode(ones(2), leafCode(ones(1), "v")))), "", 0},
		{"a branch with a wrong reference behind", branchCode("", map[int]string{1: a, 2: b, 15: text("wrong")}), "", 0},
		{"a branch of 31 bytes below the root", branchCode("vvvvvvvvvvv", map[int]string{1: leafCode("\x03", "v")}), "branch", 2},
		{"a branch that is too deep", branchCode("", map[int]string{1: text(h), 2: text(h)}), "extension", 128},
		{"a branch that is too deep under a branch", branchCode("", map[int]string{1: text(h), 2: text(h)}), "branch", 128},
		{"a branch that is too deep for its leaf", branchCode("", refsTo(leafCode(ones(2), "v"))), "extension", 127},
		{"a text of any length", strings.Repeat(leafCode("", "v"), 1<<20), "", 0},
	} {
		if err := readAt(t, c.code, c.above, c.depth); err != api.ErrNode {
			t.Errorf("P7: %s is read with %d, want ErrNode: %.200x", c.what, err, c.code)
		}
	}
}

// TestNodesThatCannotBeRead: each call that comes to such a node tells it, and
// changes nothing.
func TestNodesThatCannotBeRead(t *testing.T) {
	m := model{"oak": long, "oar": long, "yew": long}
	for _, c := range []struct {
		what  string
		spoil func([]api.Entry) []api.Entry
		err   api.Errno
	}{
		{"an empty store", func([]api.Entry) []api.Entry { return nil }, api.ErrMissing},
		{"wrong texts", func(l []api.Entry) []api.Entry {
			for i := range l {
				l[i].Text = l[(i+1)%len(l)].Text
			}
			return l
		}, api.ErrNode},
		{"texts of another name", func(l []api.Entry) []api.Entry {
			for i := range l {
				l[i].Name = l[i].Name[:31]
			}
			return l
		}, api.ErrMissing},
	} {
		x := opened(t, m.root(), c.spoil(m.stored())...)
		if v, err := x.Get("oak"); v != "" || err != c.err {
			t.Errorf("P7: %s: Get = %q, %d", c.what, v, err)
		}
		for _, key := range []string{"oak", "not there", ""} {
			if l, err := x.Prove(key); l != nil || err != c.err {
				t.Errorf("P11: %s: Prove(%q) = %q, %d", c.what, key, l, err)
			}
		}
		if l, err := x.Each("", 5); l != nil || err != c.err {
			t.Errorf("P9: %s: Each = %q, %d", c.what, l, err)
		}
		if l, err := x.Each("", 0); l != nil || err != api.OK {
			t.Errorf("P9: %s: Each of none = %q, %d", c.what, l, err)
		}
		for _, key := range []string{"oak", "not there"} {
			if err := x.Put(api.Pair{Key: key, Value: "v"}); err != c.err {
				t.Errorf("P8: %s: Put = %d", c.what, err)
			}
			if err := x.Put(api.Pair{Key: key}); err != c.err {
				t.Errorf("P8: %s: Put of no value = %d", c.what, err)
			}
			if err := x.Delete(key); err != c.err {
				t.Errorf("P8: %s: Delete = %d", c.what, err)
			}
		}
		if x.Put() != api.OK || x.Delete() != api.OK || x.Root() != m.root() {
			t.Errorf("P8: %s: the root has changed", c.what)
		}
	}
}

// TestLonelyNodesThatMayNotStandThere: what a branch is left with is read as
// strictly as what is on the path.
func TestLonelyNodesThatMayNotStandThere(t *testing.T) {
	for _, c := range []struct {
		what, code string
		depth      int // of the branch
		err        api.Errno
	}{
		{"a leaf", leafCode(ones(1), long), 2, api.OK},
		{"a leaf at the deepest", leafCode(ones(1), long), 126, api.OK},
		{"a leaf of a value at an odd depth", leafCode("", long), 2, api.ErrNode},
		{"a leaf that goes too deep", leafCode(ones(3), long), 126, api.ErrNode},
		{"a leaf that is too short", leafCode(ones(1), "v"), 2, api.ErrNode},
		{"an extension", extensionCode(ones(1), text(h)), 126, api.OK},
		{"an extension that goes too deep", extensionCode(ones(2), text(h)), 126, api.ErrNode},
		{"a branch", branchCode("", map[int]string{1: text(h), 2: text(h)}), 126, api.OK},
		{"a branch of a value at an odd depth", branchCode("v", map[int]string{1: text(h)}), 126, api.ErrNode},
	} {
		fork := branchCode("v", map[int]string{9: text(keccak.Sum(c.code))})
		top := extensionCode(zeros(c.depth), text(keccak.Sum(fork)))
		x := opened(t, keccak.Sum(top), entry(top), entry(fork), entry(c.code))
		if err := x.Delete(string(make([]byte, c.depth/2))); err != c.err {
			t.Errorf("P8: %s is left, at %d numbers: Delete = %d, want %d", c.what, c.depth, err, c.err)
		}
		if same := x.Root() == keccak.Sum(top); same != (c.err != api.OK) {
			t.Errorf("P8: %s is left, at %d numbers: the root is the same: %v", c.what, c.depth, same)
		}
	}
}
