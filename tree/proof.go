package tree

import (
	"strings"

	"canopy/api"
	"canopy/paths"
)

// Prove tells the codes that somebody who knows the root alone must read to
// know what Get tells of a key.
func (t *Tree) Prove(key string) ([]string, api.Errno) {
	if len(key) > api.MaxKey {
		return nil, api.ErrKey
	}
	w := witness{store: t.store}
	if _, err := get(w.read, t.top, paths.Of(key)); err != api.OK && err != api.ErrNone {
		return nil, err
	}
	return w.codes, api.OK
}

// witness reads from a store and keeps the codes of the nodes that it comes to,
// but for those inside of another one's.
type witness struct {
	store store
	codes []string
}

func (w *witness) read(at spot) (node, api.Errno) {
	n, err := w.store.read(at)
	if err != api.OK {
		return nil, err
	}
	if code := n.code(); at.above == nil || len(code) >= hashSize {
		w.codes = append(w.codes, code)
	}
	return n, api.OK
}

// Verify tells the value of a key, and whether there is one, in the tree under a
// root, of which a proof has the codes that are read for it, no more and no
// fewer.
func Verify(root, key string, proof ...string) (string, bool, api.Errno) {
	if len(key) > api.MaxKey {
		return "", false, api.ErrKey
	}
	// No text has such a hash; and without a byte it would be a reference to
	// nothing, for which no text is asked.
	if len(root) != hashSize {
		return "", false, api.ErrProof
	}
	top := ref{hash: root}
	if root == rootOfNothing() {
		top = ref{}
	}
	left := unread(proof)
	value, err := get(left.read, top, paths.Of(key))
	if err != api.OK && err != api.ErrNone || len(left) > 0 {
		return "", false, api.ErrProof
	}
	return strings.Clone(value), err == api.OK, api.OK
}

// unread: the texts of a proof whose turn has not come.
type unread []string

func (u *unread) read(at spot) (node, api.Errno) {
	if at.to.node != nil {
		return at.to.node, api.OK
	}
	if len(*u) == 0 {
		return nil, api.ErrMissing
	}
	next := (*u)[0]
	*u = (*u)[1:]
	return at.nodeOf(next)
}
