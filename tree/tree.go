package tree

import (
	"strings"

	"canopy/api"
	"canopy/item"
	"canopy/keccak"
	"canopy/paths"
)

// Tree is a map, over a store.
type Tree struct {
	store store
	top   ref
}

// New makes an empty tree over a store.
func New(entries ...api.Entry) (Tree, api.Errno) {
	s, err := newStore(entries)
	return Tree{store: s}, err
}

// Root tells the hash of the topmost node's code, however short it is.
func (t *Tree) Root() string {
	switch {
	case t.top.node != nil:
		return keccak.Sum(t.top.node.code())
	case t.top.hash != "":
		return strings.Clone(t.top.hash)
	}
	return rootOfNothing()
}

func rootOfNothing() string { return keccak.Sum(item.TextCode("")) }

// Get tells the value of a key.
func (t *Tree) Get(key string) (string, api.Errno) {
	if len(key) > api.MaxKey {
		return "", api.ErrKey
	}
	value, err := get(t.store.read, t.top, paths.Of(key))
	return strings.Clone(value), err
}

// get goes a path from the topmost node on, to its value.
func get(read reader, top ref, path []int) (string, api.Errno) {
	if top.isEmpty() {
		return "", api.ErrNone
	}
	at := spot{to: top}
	for {
		n, err := read(at)
		if err != api.OK {
			return "", err
		}
		p, ok := n.toward(path)
		if !ok {
			return "", api.ErrNone
		}
		if p.value != "" {
			return p.value, api.OK
		}
		path = path[len(p.path):]
		at = spot{to: p.to, above: n, depth: at.depth + len(p.path)}
	}
}
