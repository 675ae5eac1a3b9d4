package tree

import (
	"maps"
	"math/rand"
	"slices"
	"strings"
	"testing"

	"canopy/api"
	"canopy/keccak"
)

// keyMaker makes keys that often begin alike, short ones and the longest.
func keyMaker(r *rand.Rand) func() string {
	ahead := []string{"", "", "", strings.Repeat("\xff", 62), strings.Repeat("a", 62)}[r.Intn(5)]
	return func() string {
		key := ""
		for range r.Intn(4) {
			key += []string{"a", "b", "\x00", "\x10", "\xff", "\xfe"}[r.Intn(6)]
		}
		if r.Intn(3) > 0 {
			key = ahead + key
		}
		return key[:min(len(key), api.MaxKey)]
	}
}

// someValue tells one value often, so that nodes at several places are alike.
func someValue(r *rand.Rand) string {
	if r.Intn(3) == 0 {
		return long
	}
	return strings.Repeat(string([]byte{byte(r.Intn(256))}), 1+r.Intn(2)*r.Intn(60))
}

// spoil takes some of the entries away and makes some texts wrong.
func spoil(r *rand.Rand, entries []api.Entry, share int) []api.Entry {
	var left []api.Entry
	for _, e := range entries {
		switch r.Intn(2 * share) {
		case 0:
		case 1:
			left = append(left, api.Entry{Name: e.Name, Text: e.Text + "\x00"})
		default:
			left = append(left, e)
		}
	}
	return left
}

// shelf: the texts of a store by their names.
type shelf map[string]string

func (s shelf) read(name string) api.Errno {
	switch text, ok := s[name]; {
	case !ok:
		return api.ErrMissing
	case keccak.Sum(text) != name:
		return api.ErrNode
	}
	return api.OK
}

// bad tells with which error the places of a map's nodes are read from a store.
func (s shelf) bad(m model) map[string]api.Errno {
	bad := map[string]api.Errno{}
	for _, n := range m.nodes() {
		if err := s.read(keccak.Sum(n.code)); n.named() && err != api.OK {
			bad[n.place] = err
		}
	}
	return bad
}

func firstError(places []string, bad map[string]api.Errno) api.Errno {
	for _, p := range places {
		if bad[p] != api.OK {
			return bad[p]
		}
	}
	return api.OK
}

// trial: a tree over a store that is not whole, and what it should hold.
type trial struct {
	*testing.T
	x     *Tree
	m     model
	shelf shelf
	bad   map[string]api.Errno // of the nodes that are read from the store
	known []model              // whose roots are opened
	seen  map[outcome]int      // how often what came
}

type outcome struct {
	call string
	err  api.Errno
}

func (c *trial) get(key string) {
	want, there := c.m[key]
	err := firstError(c.m.onPath(key), c.bad)
	switch {
	case err != api.OK:
		want = ""
	case !there:
		err = api.ErrNone
	}
	if v, e := c.x.Get(key); v != want || e != err {
		c.Fatalf("P7: Get(%q) = %q, %d, want %q, %d, of %q", key, v, e, want, err, c.m)
	}
	c.seen[outcome{"get", err}]++
}

func (c *trial) prove(key string) {
	want, err := c.m.proof(key), firstError(c.m.onPath(key), c.bad)
	if err != api.OK {
		want = nil
	}
	if got, e := c.x.Prove(key); !slices.Equal(got, want) || e != err {
		c.Fatalf("P11: Prove(%q) = %q, %d, want %q, %d, of %q", key, got, e, want, err, c.m)
	}
	c.checkRoot(err)
	c.seen[outcome{"prove", err}]++
}

// verify: of all lists of texts one alone says something of a key under a root.
func (c *trial) verify(m model, key string, proof []string) {
	value, there := m[key]
	err := api.OK
	if !slices.Equal(proof, m.proof(key)) {
		value, there, err = "", false, api.ErrProof
	}
	own := slices.Clone(proof)
	if v, y, e := Verify(m.root(), key, proof...); v != value || y != there || e != err {
		c.Fatalf("P12: Verify(.., %q, %q) = %q, %v, %d, want %q, %v, %d, of %q", key, proof, v, y, e, value, there, err, m)
	}
	if !slices.Equal(proof, own) {
		c.Fatalf("P2: Verify changes %q to %q", own, proof)
	}
	c.seen[outcome{"verify", err}]++
}

// altered tells a proof with something changed, and a part of other ones.
func altered(r *rand.Rand, proof, other []string) []string {
	l := slices.Clone(proof)
	all := append(slices.Clone(proof), other...)
	if len(all) == 0 {
		return []string{"\x80"}
	}
	i, k := r.Intn(len(l)+1), r.Intn(max(1, len(l)))
	some := all[r.Intn(len(all))]
	switch kind := r.Intn(6); {
	case kind == 0 || len(l) == 0 || i == len(l):
		return slices.Insert(l, i, some)
	case kind == 1:
		return slices.Delete(l, i, i+1)
	case kind == 2:
		l[i], l[k] = l[k], l[i]
	case kind == 3:
		l[i] = some
	case kind == 4:
		b := []byte(l[i])
		b[r.Intn(len(b))] ^= byte(1 + r.Intn(255))
		l[i] = string(b)
	default:
		l[i] = []string{l[i][1:], l[i][:len(l[i])-1], l[i] + "\x80", "", "\x80"}[r.Intn(5)]
	}
	return l
}

// proofs: what a tree tells, what comes of it, and of what is like it.
func (c *trial) proofs(r *rand.Rand, key func() string) {
	one, two := key(), key()
	c.prove(one)
	other := c.known[r.Intn(len(c.known))]
	proof := c.m.proof(one)
	c.verify(c.m, one, proof)
	c.verify(c.m, two, proof)
	c.verify(other, one, proof)
	c.verify(c.m, one, altered(r, proof, other.proof(two)))
	c.verify(c.m, one, altered(r, proof, c.m.proof(two)))
}

func (c *trial) each(from string, most int) {
	places, want := c.m.passed(from, most)
	err := firstError(places, c.bad)
	if err != api.OK {
		want = nil
	}
	if got, e := c.x.Each(from, most); !slices.Equal(got, want) || e != err {
		c.Fatalf("P9: Each(%q, %d) = %q, %d, want %q, %d, of %q", from, most, got, e, want, err, c.m)
	}
	c.seen[outcome{"each", err}]++
}

// change puts pairs, or deletes their keys, and checks the root.
func (c *trial) change(deletes bool, pairs []api.Pair) {
	after := maps.Clone(c.m)
	err := api.OK
	var keys []string
	for _, p := range pairs {
		keys = append(keys, p.Key)
		places := after.onPath(p.Key)
		if p.Value == "" {
			places = append(places, after.lonely(p.Key)...)
		}
		if err == api.OK {
			err = firstError(places, c.bad)
		}
		after[p.Key] = p.Value
		if p.Value == "" {
			delete(after, p.Key)
		}
	}
	var e api.Errno
	if deletes {
		e = c.x.Delete(keys...)
	} else {
		e = c.x.Put(pairs...)
	}
	if e != err {
		c.Fatalf("P8: of %q = %d, want %d, of %q", pairs, e, err, c.m)
	}
	if err == api.OK {
		c.m = after
	}
	c.checkRoot(err)
	c.seen[outcome{"change", err}]++
}

func (c *trial) checkRoot(err api.Errno) {
	c.Helper()
	if got := c.x.Root(); got != c.m.root() {
		c.Fatalf("P6: the root is %x, want %x (%d)", got, c.m.root(), err)
	}
}

// commit: all nodes come into the store but those at and under a place that
// can't be read, unless they are met elsewhere, too.
func (c *trial) commit() {
	hidden := func(place string) bool {
		for above := range c.bad {
			if strings.HasPrefix(place, above) {
				return true
			}
		}
		return false
	}
	var want []api.Entry
	for _, n := range c.m.nodes() {
		name := keccak.Sum(n.code)
		if n.named() && !hidden(n.place) && c.shelf.read(name) != api.OK {
			want = append(want, api.Entry{Name: name, Text: n.code})
			c.shelf[name] = n.code
		}
	}
	slices.SortFunc(want, func(a, b api.Entry) int { return strings.Compare(a.Name, b.Name) })
	if told := c.x.Commit(); !slices.Equal(told, want) {
		c.Fatalf("P10: Commit tells %q, want %q, of %q", told, want, c.m)
	}
	c.checkShelf()
	c.checkRoot(api.OK)
	hid := len(c.bad)
	names := map[string]string{}
	for _, n := range c.m.nodes() {
		names[n.place] = keccak.Sum(n.code)
	}
	maps.DeleteFunc(c.bad, func(place string, _ api.Errno) bool { return c.shelf.read(names[place]) == api.OK })
	if len(c.bad) < hid {
		c.seen[outcome{"mended", api.OK}]++
	}
	if c.known = append(c.known, maps.Clone(c.m)); want != nil {
		c.seen[outcome{"commit", api.OK}]++
	}
}

// mend puts a leaf that can't be read at another place, too, and commits it.
func (c *trial) mend(r *rand.Rand) {
	for _, n := range c.m.nodes() {
		if c.bad[n.place] == api.OK || n.kind != "leaf" || n.place == "" {
			continue
		}
		beside := n.place[:len(n.place)-1] + string([]byte{byte(r.Intn(16))})
		value := c.m[wholeBytes(n.place+n.path)]
		c.change(false, []api.Pair{{Key: wholeBytes(beside + n.path), Value: value}})
		c.commit()
		return
	}
}

func (c *trial) checkShelf() {
	c.Helper()
	texts := shelf{}
	for name, e := range c.x.store {
		if e.Name != name {
			c.Fatalf("P10: the store has %q under %q", e, name)
		}
		texts[name] = e.Text
	}
	if !maps.Equal(texts, c.shelf) {
		c.Fatalf("P10: the store has %q, want %q", texts, c.shelf)
	}
}

func (c *trial) open(m model) {
	err := api.OK
	if len(m) > 0 {
		err = c.shelf.read(m.root())
	}
	if e := c.x.Open(m.root()); e != err {
		c.Fatalf("P10: Open = %d, want %d, of %q", e, err, m)
	}
	if err == api.OK {
		c.m, c.bad = maps.Clone(m), c.shelf.bad(m)
	}
	c.checkRoot(err)
	c.checkShelf()
	c.seen[outcome{"open", err}]++
}

// someModels makes two maps that have much in common.
func someModels(r *rand.Rand, key func() string) []model {
	one := model{}
	for range r.Intn(25) {
		one[key()] = someValue(r)
	}
	other := maps.Clone(one)
	for range r.Intn(4) {
		other[key()] = someValue(r)
		delete(other, key())
	}
	return []model{one, other}
}

func newTrial(t *testing.T, r *rand.Rand, key func() string, seen map[outcome]int) *trial {
	known := someModels(r, key)
	whole := known[0].stored()
	for _, e := range known[1].stored() {
		if !slices.Contains(whole, e) {
			whole = append(whole, e)
		}
	}
	entries := spoil(r, whole, 1+r.Intn(12))
	texts := shelf{}
	for _, e := range entries {
		texts[e.Name] = e.Text
	}
	return &trial{t, empty(t, entries...), model{}, texts, nil, append(known, model{}), seen}
}

func runTrial(t *testing.T, r *rand.Rand, seen map[outcome]int) {
	key := keyMaker(r)
	c := newTrial(t, r, key, seen)
	c.open(c.known[0])
	for range 40 {
		switch r.Intn(24) {
		case 0, 1, 2, 3:
			c.get(key())
		case 4, 5, 6, 7:
			from := key()
			if r.Intn(3) == 0 {
				from += strings.Repeat(key(), 3)
			}
			c.each(from, r.Intn(12)-1)
		case 8, 9:
			c.commit()
		case 10:
			c.open(c.known[r.Intn(len(c.known))])
		case 11, 12, 13:
			c.proofs(r, key)
		case 14:
			c.mend(r)
		default:
			c.someChange(r, key)
		}
	}
}

func (c *trial) someChange(r *rand.Rand, key func() string) {
	deletes := r.Intn(2) == 0
	var pairs []api.Pair
	for range 1 + r.Intn(2)*r.Intn(3) {
		p := api.Pair{Key: key(), Value: someValue(r)}
		if deletes || r.Intn(2) == 0 {
			p.Value = ""
		}
		pairs = append(pairs, p)
	}
	c.change(deletes, pairs)
}

// TestAgainstModel: trees over whole stores and over such as lack nodes or have
// wrong texts, under the calls of P6 to P12, beside the model.
func TestAgainstModel(t *testing.T) {
	r := rand.New(rand.NewSource(5))
	seen := map[outcome]int{}
	for range 300 {
		runTrial(t, r, seen)
	}
	for _, call := range []string{"get", "each", "change", "open", "prove"} {
		for _, err := range []api.Errno{api.OK, api.ErrMissing, api.ErrNode} {
			if n := seen[outcome{call, err}]; n < 50 {
				t.Errorf("%s came to %d only %d times", call, err, n)
			}
		}
	}
	if seen[outcome{"commit", api.OK}] < 100 || seen[outcome{"mended", api.OK}] < 20 {
		t.Errorf("Commit came to something too seldom: %v", seen)
	}
	if seen[outcome{"verify", api.OK}] < 1000 || seen[outcome{"verify", api.ErrProof}] < 1000 {
		t.Errorf("Verify came to one of its answers too seldom: %v", seen)
	}
}
