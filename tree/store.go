package tree

import (
	"strings"

	"canopy/api"
	"canopy/keccak"
)

// store has the entries by their names.
type store map[string]api.Entry

func newStore(entries []api.Entry) (store, api.Errno) {
	if len(entries) > api.MaxStore {
		return nil, api.ErrLong
	}
	s := store{}
	for _, e := range entries {
		if _, twice := s[e.Name]; twice {
			return nil, api.ErrStore
		}
		name := strings.Clone(e.Name)
		s[name] = api.Entry{Name: name, Text: strings.Clone(e.Text)}
	}
	return s, api.OK
}

// isRight tells whether a text is the one that a name stands for.
func isRight(text, name string) bool { return keccak.Sum(text) == name }

// keep brings a node's code in, unless there is a right text under its hash, and
// tells a copy of the entry and whether it is a new one.
func (s store) keep(code string) (api.Entry, bool) {
	name := keccak.Sum(code)
	if e, ok := s[name]; ok && isRight(e.Text, name) {
		return api.Entry{}, false
	}
	s[name] = api.Entry{Name: name, Text: code}
	return api.Entry{Name: strings.Clone(name), Text: strings.Clone(code)}, true
}

// spot is a place where a reference stands: under a node (under none, if it is
// the root's), with so many numbers on the way to it.
type spot struct {
	to    ref
	above node
	depth int
}

// reader tells the node at a spot where there is one.
type reader func(at spot) (node, api.Errno)

// read is the reader of what the store has.
func (s store) read(at spot) (node, api.Errno) {
	if at.to.node != nil {
		return at.to.node, api.OK
	}
	e, ok := s[at.to.hash]
	if !ok {
		return nil, api.ErrMissing
	}
	return at.nodeOf(e.Text)
}

// nodeOf tells the node whose code a text is, if the text is the one that the
// spot's hash stands for and the node may stand there.
func (at spot) nodeOf(text string) (node, api.Errno) {
	// No node is that long, and the hash of a huge text takes its time.
	if len(text) > api.MaxText || !isRight(text, at.to.hash) {
		return nil, api.ErrNode
	}
	n, ok := parse(text, at.depth)
	if !ok || !fits(at.above, n) || at.above != nil && len(text) < hashSize {
		return nil, api.ErrNode
	}
	return n, api.OK
}
