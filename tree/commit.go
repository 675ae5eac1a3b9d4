package tree

import (
	"iter"
	"slices"
	"strings"

	"canopy/api"
)

// Commit brings the nodes that are read by their hashes into the store, and
// tells those that it had not.
func (t *Tree) Commit() []api.Entry {
	var told []api.Entry
	for n := range nodes(t.top) {
		code := n.code()
		if n != t.top.node && len(code) < hashSize {
			continue
		}
		if e, isNew := t.store.keep(code); isNew {
			told = append(told, e)
		}
	}
	slices.SortFunc(told, func(a, b api.Entry) int { return strings.Compare(a.Name, b.Name) })
	return told
}

// nodes goes through the nodes that a tree has from a reference on, each ahead
// of what is under it. A hash alone leads no further: what it names is in the
// store already, or can't be known.
func nodes(to ref) iter.Seq[node] {
	return func(yield func(node) bool) {
		if to.node == nil || !yield(to.node) {
			return
		}
		for p := range to.node.parts() {
			for n := range nodes(p.to) {
				if !yield(n) {
					return
				}
			}
		}
	}
}

// Open goes to the tree under a root.
func (t *Tree) Open(root string) api.Errno {
	if root == rootOfNothing() {
		t.top = ref{}
		return api.OK
	}
	if _, err := t.store.read(spot{to: ref{hash: root}}); err != api.OK {
		return err
	}
	t.top = ref{hash: strings.Clone(root)}
	return api.OK
}
