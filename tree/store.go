package tree

import (
	"strings"

	"canopy/api"
	"canopy/keccak"
)

// store has the entries by their names.
type store map[string]api.Entry

func newStore(entries []api.Entry) (store, api.Errno) {
	if len(entries) > api.MaxStore {
		return nil, api.ErrLong
	}
	s := store{}
	for _, e := range entries {
		if _, twice := s[e.Name]; twice {
			return nil, api.ErrStore
		}
		name := strings.Clone(e.Name)
		s[name] = api.Entry{Name: name, Text: strings.Clone(e.Text)}
	}
	return s, api.OK
}

// isRight tells whether a text is the one that its name stands for.
func isRight(e api.Entry) bool { return keccak.Sum(e.Text) == e.Name }

// keep brings a node's code in, unless there is a right text under its hash, and
// tells a copy of the entry and whether it is a new one.
func (s store) keep(code string) (api.Entry, bool) {
	name := keccak.Sum(code)
	if e, ok := s[name]; ok && isRight(e) {
		return api.Entry{}, false
	}
	s[name] = api.Entry{Name: name, Text: code}
	return api.Entry{Name: strings.Clone(name), Text: strings.Clone(code)}, true
}

// spot is a place where a reference stands: under a node (under none, if it is
// the root's), with so many numbers on the way to it.
type spot struct {
	to    ref
	above node
	depth int
}

// read tells the node at a spot where there is one.
func (s store) read(at spot) (node, api.Errno) {
	if at.to.node != nil {
		return at.to.node, api.OK
	}
	e, ok := s[at.to.hash]
	if !ok {
		return nil, api.ErrMissing
	}
	// No node is that long, and the hash of a huge text takes its time.
	if len(e.Text) > api.MaxText || !isRight(e) {
		return nil, api.ErrNode
	}
	n, ok := parse(e.Text, at.depth)
	if !ok || !fits(at.above, n) || at.above != nil && len(e.Text) < hashSize {
		return nil, api.ErrNode
	}
	return n, api.OK
}
