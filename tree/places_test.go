package tree

import (
	"slices"
	"strings"
	"testing"
	"unsafe"

	"canopy/api"
	"canopy/keccak"
)

// woods: "ka" to "kd" hang under one branch with values that are long enough to
// be read by their hashes.
func woods() model {
	return model{"ka": long + "a", "kb": long + "b", "kc": long + "c", "kd": long + "d"}
}

// without tells the tree of a map over a store that lacks the leaves of keys.
func without(t *testing.T, m model, keys ...string) *Tree {
	t.Helper()
	x := opened(t, m.root(), m.stored()...)
	for _, key := range keys {
		lose(t, x, leafName(m, key))
	}
	return x
}

func leafName(m model, key string) string {
	for _, n := range m.nodes() {
		if n.kind == "leaf" && n.place+n.path == halves(key) {
			return keccak.Sum(n.code)
		}
	}
	return ""
}

func lose(t *testing.T, x *Tree, name string) {
	t.Helper()
	if _, ok := x.store[name]; !ok {
		t.Fatalf("the store has nothing under %x", name)
	}
	delete(x.store, name)
}

func put(key, value string) api.Pair { return api.Pair{Key: key, Value: value} }

func TestEachReadsNoMoreThanItNeeds(t *testing.T) {
	x := without(t, woods(), "ka", "kd")
	for _, c := range []struct {
		from string
		most int
		keys string
		err  api.Errno
	}{
		{"", 1, "", api.ErrMissing},
		{"", 0, "", api.OK},
		{"ka", 1, "", api.ErrMissing},
		{"kaa", 1, "", api.ErrMissing},
		{"kb", 1, "b", api.OK},
		{"kb", 2, "bc", api.OK},
		{"kb", 3, "", api.ErrMissing},
		{"kc", 1, "c", api.OK},
		{"kd", 1, "", api.ErrMissing},
		{"ke", 9, "", api.OK},
		{"l", 9, "", api.OK},
	} {
		pairs, err := x.Each(c.from, c.most)
		keys := ""
		for _, p := range pairs {
			keys += p.Key[1:]
		}
		if keys != c.keys || err != c.err {
			t.Errorf("P9: Each(%q, %d) = %q, %d, want %q, %d", c.from, c.most, keys, err, c.keys, c.err)
		}
	}
}

func TestIteratorIsLeftEarly(t *testing.T) {
	m := woods()
	x := without(t, m, "kc")
	var keys []string
	for pair, err := range x.store.pairs(spot{to: x.top}, nil, nil) {
		if err != api.OK {
			t.Fatalf("P9: it goes on to %d", err)
		}
		keys = append(keys, pair.Key)
		if len(keys) == 2 {
			break
		}
	}
	if !slices.Equal(keys, []string{"ka", "kb"}) {
		t.Errorf("P9: it goes through %q", keys)
	}
}

// TestOneAfterTheOther: a branch that is left with one reference is looked at
// when it comes to that, whatever the keys behind do.
func TestOneAfterTheOther(t *testing.T) {
	m := woods()
	for _, c := range []struct {
		pairs []api.Pair
		err   api.Errno
	}{
		{[]api.Pair{put("kb", ""), put("kc", "")}, api.OK},
		{[]api.Pair{put("kb", ""), put("kc", ""), put("kd", "")}, api.ErrMissing},
		{[]api.Pair{put("kb", ""), put("kc", ""), put("kd", ""), put("ke", "v")}, api.ErrMissing},
		{[]api.Pair{put("ke", "v"), put("kb", ""), put("kc", ""), put("kd", "")}, api.OK},
		{[]api.Pair{put("k", "v"), put("kb", ""), put("kc", ""), put("kd", "")}, api.ErrMissing},
		{[]api.Pair{put("kb", "v"), put("ka", "v")}, api.ErrMissing},
		{[]api.Pair{put("kb", "v"), put("kaa", "")}, api.ErrMissing},
		{[]api.Pair{put("kb", "v"), put("ja", "v"), put("q", "v"), put("", "v")}, api.OK},
	} {
		x := without(t, m, "ka")
		want := m.root()
		if c.err == api.OK {
			after := woods()
			for _, p := range c.pairs {
				after[p.Key] = p.Value
				if p.Value == "" {
					delete(after, p.Key)
				}
			}
			want = after.root()
		}
		if err := x.Put(c.pairs...); err != c.err || x.Root() != want {
			t.Errorf("P8: Put(%q) = %d, want %d, and the root is as it should be: %v", c.pairs, err, c.err, x.Root() == want)
		}
	}
}

// TestLonelyNodes: each kind of node that a branch may be left with, read by
// its hash, and what is above the branch.
func TestLonelyNodes(t *testing.T) {
	for _, c := range []struct {
		what string
		rest model
	}{
		{"a leaf", model{"aa": long}},
		{"an extension", model{"aa1": long, "aa2": long}},
		{"a branch", model{"a\x10": long, "a\x20": long}},
		{"a branch of a value", model{"a": long, "a\x10": long, "a\x20": long}},
		{"a value", model{"": long}},
	} {
		for _, gone := range []string{"q", "aq", "b", "a\x90", "aa\x90"} {
			m := model{gone: long}
			for k, v := range c.rest {
				m[k] = v
			}
			x := opened(t, m.root(), m.stored()...)
			if err := x.Delete(gone); err != api.OK || x.Root() != c.rest.root() {
				t.Errorf("P8: %s is left by %q: %d, and the root is as it should be: %v", c.what, gone, err, x.Root() == c.rest.root())
			}
			pairs, err := x.Each("", 9)
			if _, want := c.rest.passed("", 9); err != api.OK || !slices.Equal(pairs, want) {
				t.Errorf("P8: %s is left by %q: %q, %d", c.what, gone, pairs, err)
			}
		}
	}
}

// TestWhatIsRead: what Put made is a part of the tree, and what came by a hash is
// read again and again.
func TestWhatIsRead(t *testing.T) {
	m := woods()
	x := opened(t, m.root(), m.stored()...)
	get := func(key string, want api.Errno) {
		t.Helper()
		if _, err := x.Get(key); err != want {
			t.Errorf("P7: Get(%q) = %d, want %d", key, err, want)
		}
		if l, err := x.Prove(key); err != want || (l == nil) != (want != api.OK) {
			t.Errorf("P11: Prove(%q) = %d texts, %d, want %d", key, len(l), err, want)
		}
	}
	get("ka", api.OK)
	lose(t, x, leafName(m, "ka"))
	get("ka", api.ErrMissing)
	x.store[leafName(m, "ka")] = api.Entry{Name: leafName(m, "ka"), Text: "wrong"}
	get("ka", api.ErrNode)
	if err := x.Put(put("kb", "v")); err != api.OK {
		t.Errorf("P8: Put = %d", err)
	}
	lose(t, x, m.root())
	lose(t, x, leafName(m, "kb"))
	get("kb", api.OK)
	get("kc", api.OK)
	get("ka", api.ErrNode)
	lose(t, x, leafName(m, "kc"))
	get("kc", api.ErrMissing)
	if x.Root() != (model{"ka": m["ka"], "kb": "v", "kc": m["kc"], "kd": m["kd"]}).root() {
		t.Errorf("P6: the root is not that of what the tree holds")
	}
	x.Commit()
	lose(t, x, x.Root())
	get("kb", api.OK)
	get("kc", api.ErrMissing)
}

// TestTextsAreCopied: a text that was handed in, or is told, is no piece of what
// the tree has.
func TestTextsAreCopied(t *testing.T) {
	e := api.Entry{Name: strings.Clone("a name"), Text: strings.Clone("a text")}
	value := strings.Clone(long)
	x := opened(t, "", e)
	x.Put(put("a", value))
	kept, v := x.store[e.Name], x.top.node.(*leaf).value
	told := x.Commit()[0]
	stored := x.store[told.Name]
	root := x.Root()
	if err := x.Open(root); err != api.OK {
		t.Fatalf("P10: Open = %d", err)
	}
	proof, _ := x.Prove("a")
	for _, c := range []struct{ what, one, other string }{
		{"a text that proves", proof[0], stored.Text},
		{"a name", e.Name, kept.Name},
		{"a text", e.Text, kept.Text},
		{"a value", value, v},
		{"a name that is told", told.Name, stored.Name},
		{"a text that is told", told.Text, stored.Text},
		{"a root that is opened", root, x.top.hash},
		{"a root that is told", x.Root(), x.top.hash},
	} {
		if c.one != c.other || unsafe.StringData(c.one) == unsafe.StringData(c.other) {
			t.Errorf("P2: %s is kept: %q, %q", c.what, c.one, c.other)
		}
	}
}
