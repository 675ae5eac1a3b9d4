package tree

import (
	"slices"
	"strings"
	"testing"

	"canopy/api"
	"canopy/keccak"
)

// The model: the tree of a map by the document's words, from all of the map at
// once. Its paths are texts with a byte for each number.

type model map[string]string

// placed is a node and the path that leads to it.
type placed struct {
	place, path string // path: the numbers of its own
	kind        string
	code        string
}

func (p placed) named() bool { return len(p.code) >= 32 || p.place == "" }

type held struct{ path, value string }

func halves(key string) string {
	var b []byte
	for _, c := range []byte(key) {
		b = append(b, c>>4, c&15)
	}
	return string(b)
}

func wholeBytes(path string) string {
	var b []byte
	for i := 0; i < len(path); i += 2 {
		b = append(b, path[i]<<4|path[i+1])
	}
	return string(b)
}

func withLength(mark int, s string) string {
	switch {
	case len(s) < 56:
		return string([]byte{byte(mark + len(s))}) + s
	case len(s) < 256:
		return string([]byte{byte(mark + 56), byte(len(s))}) + s
	}
	return string([]byte{byte(mark + 57), byte(len(s) >> 8), byte(len(s))}) + s
}

func text(s string) string {
	if len(s) == 1 && s[0] < 128 {
		return s
	}
	return withLength(128, s)
}

func list(codes ...string) string { return withLength(192, strings.Join(codes, "")) }

func packed(path string, mark byte) string {
	if len(path)%2 == 1 {
		return text(string([]byte{16 + mark + path[0]}) + wholeBytes(path[1:]))
	}
	return text(string([]byte{mark}) + wholeBytes(path))
}

func leafCode(path, value string) string { return list(packed(path, 32), text(value)) }

func extensionCode(path, to string) string { return list(packed(path, 0), to) }

// branchCode: of references by their numbers (the codes that stand for them).
func branchCode(value string, refs map[int]string) string {
	codes := slices.Repeat([]string{text("")}, 16)
	for i, code := range refs {
		codes[i] = code
	}
	return list(append(codes, text(value))...)
}

func reference(code string) string {
	if len(code) < 32 {
		return code
	}
	return text(keccak.Sum(code))
}

// build adds the nodes of the tree of what is held, each ahead of what is under
// it, and tells the code of the first.
func build(all *[]placed, place string, l []held) string {
	own := len(*all)
	*all = append(*all, placed{place: place})
	n := &placed{place: place}
	first, last := l[0].path, l[len(l)-1].path
	switch {
	case len(l) == 1:
		n.kind, n.path = "leaf", first
		n.code = leafCode(first, l[0].value)
	case first != "" && last[0] == first[0]:
		same := 0
		for same < len(first) && first[same] == last[same] {
			same++
		}
		n.kind, n.path = "extension", first[:same]
		n.code = extensionCode(n.path, reference(build(all, place+n.path, rests(l, n.path))))
	default:
		n.kind = "branch"
		value := ""
		if first == "" {
			value = l[0].value
		}
		refs := map[int]string{}
		for i := range 16 {
			number := string([]byte{byte(i)})
			if under := rests(l, number); under != nil {
				refs[i] = reference(build(all, place+number, under))
			}
		}
		n.code = branchCode(value, refs)
	}
	(*all)[own] = *n
	return n.code
}

func rests(l []held, path string) []held {
	var under []held
	for _, h := range l {
		if rest, ok := strings.CutPrefix(h.path, path); ok {
			under = append(under, held{rest, h.value})
		}
	}
	return under
}

func (m model) keys() []string {
	var keys []string
	for k := range m {
		keys = append(keys, k)
	}
	slices.Sort(keys)
	return keys
}

func (m model) nodes() []placed {
	var l []held
	for _, k := range m.keys() {
		l = append(l, held{halves(k), m[k]})
	}
	var all []placed
	if l != nil {
		build(&all, "", l)
	}
	return all
}

func (m model) root() string {
	if len(m) == 0 {
		return keccak.Sum("\x80")
	}
	return keccak.Sum(m.nodes()[0].code)
}

// stored tells the entries of the nodes that are read by their hashes.
func (m model) stored() []api.Entry {
	var entries []api.Entry
	for _, n := range m.nodes() {
		e := api.Entry{Name: keccak.Sum(n.code), Text: n.code}
		if n.named() && !slices.Contains(entries, e) {
			entries = append(entries, e)
		}
	}
	return entries
}

// onPath tells the places of the nodes that are gone through for a key.
func (m model) onPath(key string) []string {
	var places []string
	for _, n := range m.nodes() {
		if strings.HasPrefix(halves(key), n.place) {
			places = append(places, n.place)
		}
	}
	return places
}

// proof tells the codes of the nodes on a key's path that are not inside of
// another one's.
func (m model) proof(key string) []string {
	var codes []string
	for _, n := range m.nodes() {
		if strings.HasPrefix(halves(key), n.place) && n.named() {
			codes = append(codes, n.code)
		}
	}
	return codes
}

// lonely tells the place of the one node that a branch is left with when a key
// is deleted, if it comes to that.
func (m model) lonely(key string) []string {
	path := halves(key)
	if _, there := m[key]; !there {
		return nil
	}
	on := m.onPath(key)
	at := on[len(on)-1]
	if i := slices.IndexFunc(m.nodes(), func(n placed) bool { return n.place == at && n.kind == "leaf" }); i >= 0 {
		if at == "" {
			return nil
		}
		at = at[:len(at)-1]
		if _, valued := m[wholeBytesOf(at)]; valued && len(at)%2 == 0 {
			return nil
		}
	}
	var left []string
	for _, n := range m.nodes() {
		child := len(n.place) == len(at)+1 && strings.HasPrefix(n.place, at)
		if child && !(n.kind == "leaf" && n.place+n.path == path) {
			left = append(left, n.place)
		}
	}
	if len(left) == 1 {
		return left
	}
	return nil
}

func wholeBytesOf(path string) string {
	if len(path)%2 == 1 {
		return ""
	}
	return wholeBytes(path)
}

// passed tells the places of the nodes that Each reads, and its pairs.
func (m model) passed(from string, most int) ([]string, []api.Pair) {
	most = max(0, min(most, api.MaxEach))
	var pairs []api.Pair
	for _, k := range m.keys() {
		if k >= from {
			pairs = append(pairs, api.Pair{Key: k, Value: m[k]})
		}
	}
	var places []string
	for _, n := range m.nodes() {
		greatest := wholeBytes(n.place + strings.Repeat("\x0f", 128-len(n.place)))
		ahead := 0
		for _, p := range pairs {
			if halves(p.Key) < n.place {
				ahead++
			}
		}
		if greatest >= from && ahead < most {
			places = append(places, n.place)
		}
	}
	return places, pairs[:min(most, len(pairs))]
}

// opened tells the tree under a root that may be such as Open does not take: the
// calls behind it are then held against reading it.
func opened(t *testing.T, root string, entries ...api.Entry) *Tree {
	t.Helper()
	x, err := New(entries...)
	if err != api.OK {
		t.Fatalf("P6: New of %d entries = %d", len(entries), err)
	}
	x.top = ref{hash: root}
	return &x
}

func empty(t *testing.T, entries ...api.Entry) *Tree {
	t.Helper()
	x := opened(t, "", entries...)
	return x
}
