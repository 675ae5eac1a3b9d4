// Package tree: maps as trees of nodes that are named by their hashes, over
// stores.
package tree

import (
	"iter"
	"slices"

	"canopy/api"
	"canopy/item"
	"canopy/keccak"
	"canopy/paths"
)

const (
	hashSize = 32 // bytes of a hash; a node of a shorter code stands in the place of its reference
	width    = 16 // references of a branch
)

// node is a leaf, an extension or a branch. What it holds never changes: a
// changed tree has new nodes on the way to the change, so that the old tree is
// still whole if the change fails.
type node interface {
	code() string

	// parts goes through what the node has, in the order of the keys.
	parts() iter.Seq[part]

	// toward tells the part that a path leads to, if there is one: a value only
	// if the path ends there.
	toward(path []int) (part, bool)

	// put tells the node that has its place, at a depth, once a path has a
	// value.
	put(s store, depth int, path []int, value string) (node, api.Errno)

	// remove tells the node that has its place, at a depth, once the value of a
	// path, which must be there, is gone: nil, if nothing is left.
	remove(s store, depth int, path []int) (node, api.Errno)
}

// part is a value, or a reference, and the path to it from the node that has
// it.
type part struct {
	path  []int
	value string
	to    ref
}

type leaf struct {
	path  []int
	value string
}

type extension struct {
	path []int
	to   ref
}

type branch struct {
	refs  [width]ref
	value string
}

// ref is a reference: without a node and a hash to nothing, with a hash alone to
// a node that must be read from the store.
type ref struct {
	node node
	hash string
}

func (r *ref) isEmpty() bool { return r.node == nil && r.hash == "" }

// code tells what stands for the reference in a node's code. The hash of a node
// is kept, so that it is made once for all roots that are asked for.
func (r *ref) code() string {
	if r.isEmpty() {
		return item.TextCode("")
	}
	if r.hash == "" {
		code := r.node.code()
		if len(code) < hashSize {
			return code
		}
		r.hash = keccak.Sum(code)
	}
	return item.TextCode(r.hash)
}

func (l *leaf) code() string {
	return item.ListCode([]string{pathCode(l.path, true), item.TextCode(l.value)})
}

func (e *extension) code() string {
	return item.ListCode([]string{pathCode(e.path, false), e.to.code()})
}

func (b *branch) code() string {
	codes := make([]string, 0, width+1)
	for i := range b.refs {
		codes = append(codes, b.refs[i].code())
	}
	return item.ListCode(append(codes, item.TextCode(b.value)))
}

func pathCode(path []int, leaf bool) string {
	packed, _ := paths.Pack(path, leaf)
	return item.TextCode(packed)
}

func (l *leaf) parts() iter.Seq[part] {
	return func(yield func(part) bool) {
		yield(part{path: l.path, value: l.value})
	}
}

func (e *extension) parts() iter.Seq[part] {
	return func(yield func(part) bool) {
		yield(part{path: e.path, to: e.to})
	}
}

func (b *branch) parts() iter.Seq[part] {
	return func(yield func(part) bool) {
		if b.value != "" && !yield(part{value: b.value}) {
			return
		}
		for i, to := range b.refs {
			if !to.isEmpty() && !yield(part{path: []int{i}, to: to}) {
				return
			}
		}
	}
}

func (l *leaf) toward(path []int) (part, bool) {
	return part{path: l.path, value: l.value}, slices.Equal(l.path, path)
}

func (e *extension) toward(path []int) (part, bool) {
	return part{path: e.path, to: e.to}, paths.Shared(e.path, path) == len(e.path)
}

func (b *branch) toward(path []int) (part, bool) {
	if len(path) == 0 {
		return part{value: b.value}, b.value != ""
	}
	to := b.refs[path[0]]
	return part{path: path[:1], to: to}, !to.isEmpty()
}
