package tree

import (
	"math/rand"
	"slices"
	"strings"
	"testing"

	"canopy/api"
	"canopy/keccak"
)

// keyMaker makes keys that often begin alike, short ones and the longest.
func keyMaker(r *rand.Rand) func() string {
	ahead := []string{"", "", "", strings.Repeat("\xff", 62), strings.Repeat("a", 62)}[r.Intn(5)]
	return func() string {
		key := ""
		for range r.Intn(4) {
			key += []string{"a", "b", "\x00", "\x10", "\xff", "\xfe"}[r.Intn(6)]
		}
		if r.Intn(3) > 0 {
			key = ahead + key
		}
		return key[:min(len(key), api.MaxKey)]
	}
}

func someValue(r *rand.Rand) string {
	return strings.Repeat(string([]byte{byte(r.Intn(256))}), 1+r.Intn(2)*r.Intn(60))
}

// spoil takes some of the entries away and makes some texts wrong, and tells
// with which error the places of their nodes are read then.
func spoil(r *rand.Rand, m model, share int) ([]api.Entry, map[string]api.Errno) {
	var entries []api.Entry
	names := map[string]api.Errno{}
	for _, e := range m.stored() {
		switch r.Intn(2 * share) {
		case 0:
			names[e.Name] = api.ErrMissing
		case 1:
			names[e.Name] = api.ErrNode
			entries = append(entries, api.Entry{Name: e.Name, Text: e.Text + "\x00"})
		default:
			entries = append(entries, e)
		}
	}
	bad := map[string]api.Errno{}
	for _, n := range m.nodes() {
		if err := names[keccak.Sum(n.code)]; n.named() && err != api.OK {
			bad[n.place] = err
		}
	}
	return entries, bad
}

func firstError(places []string, bad map[string]api.Errno) api.Errno {
	for _, p := range places {
		if bad[p] != api.OK {
			return bad[p]
		}
	}
	return api.OK
}

// trial: a tree over a store that is not whole, and what it should hold.
type trial struct {
	*testing.T
	x    *Tree
	m    model
	bad  map[string]api.Errno
	seen map[outcome]int // how often what came
}

type outcome struct {
	call string
	err  api.Errno
}

func (c *trial) get(key string) {
	want, there := c.m[key]
	err := firstError(c.m.onPath(key), c.bad)
	switch {
	case err != api.OK:
		want = ""
	case !there:
		err = api.ErrNone
	}
	if v, e := c.x.Get(key); v != want || e != err {
		c.Fatalf("P7: Get(%q) = %q, %d, want %q, %d, of %q", key, v, e, want, err, c.m)
	}
	c.seen[outcome{"get", err}]++
}

func (c *trial) each(from string, most int) {
	places, want := c.m.passed(from, most)
	err := firstError(places, c.bad)
	if err != api.OK {
		want = nil
	}
	if got, e := c.x.Each(from, most); !slices.Equal(got, want) || e != err {
		c.Fatalf("P9: Each(%q, %d) = %q, %d, want %q, %d, of %q", from, most, got, e, want, err, c.m)
	}
	c.seen[outcome{"each", err}]++
}

// change puts pairs, or deletes their keys, and checks the root.
func (c *trial) change(deletes bool, pairs []api.Pair) {
	after := model{}
	for k, v := range c.m {
		after[k] = v
	}
	err := api.OK
	var keys []string
	for _, p := range pairs {
		keys = append(keys, p.Key)
		places := after.onPath(p.Key)
		if p.Value == "" {
			places = append(places, after.lonely(p.Key)...)
		}
		if err == api.OK {
			err = firstError(places, c.bad)
		}
		after[p.Key] = p.Value
		if p.Value == "" {
			delete(after, p.Key)
		}
	}
	var e api.Errno
	if deletes {
		e = c.x.Delete(keys...)
	} else {
		e = c.x.Put(pairs...)
	}
	if e != err {
		c.Fatalf("P8: of %q = %d, want %d, of %q", pairs, e, err, c.m)
	}
	if err == api.OK {
		c.m = after
	}
	if got := c.x.Root(); got != c.m.root() {
		c.Fatalf("P6, P8: the root is %x, want %x, after %q (%d)", got, c.m.root(), pairs, err)
	}
	c.seen[outcome{"change", err}]++
}

func runTrial(t *testing.T, r *rand.Rand, seen map[outcome]int) {
	key := keyMaker(r)
	m := model{}
	for range r.Intn(25) {
		m[key()] = someValue(r)
	}
	entries, bad := spoil(r, m, 1+r.Intn(12))
	c := trial{t, opened(t, m.root(), entries...), m, bad, seen}
	if len(m) == 0 {
		c.x = empty(t)
	}
	for range 30 {
		switch r.Intn(4) {
		case 0:
			c.get(key())
		case 1:
			from := key()
			if r.Intn(3) == 0 {
				from += strings.Repeat(key(), 3)
			}
			c.each(from, r.Intn(12)-1)
		default:
			deletes := r.Intn(2) == 0
			var pairs []api.Pair
			for range 1 + r.Intn(2)*r.Intn(3) {
				p := api.Pair{Key: key(), Value: someValue(r)}
				if deletes || r.Intn(2) == 0 {
					p.Value = ""
				}
				pairs = append(pairs, p)
			}
			c.change(deletes, pairs)
		}
	}
}

// TestAgainstModel: trees over whole stores and over such as lack nodes or have
// wrong texts, under the calls of P6 to P9, beside the model.
func TestAgainstModel(t *testing.T) {
	r := rand.New(rand.NewSource(5))
	seen := map[outcome]int{}
	for range 500 {
		runTrial(t, r, seen)
	}
	for _, call := range []string{"get", "each", "change"} {
		for _, err := range []api.Errno{api.OK, api.ErrMissing, api.ErrNode} {
			if n := seen[outcome{call, err}]; n < 100 {
				t.Errorf("%s came to %d only %d times", call, err, n)
			}
		}
	}
}
