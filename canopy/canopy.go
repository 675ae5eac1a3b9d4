// Package canopy: a map under one root: see DOC.md.
package canopy

import (
	"canopy/api"
	"canopy/item"
	"canopy/keccak"
	"canopy/paths"
	"canopy/tree"
)

// Tree is a map, over a store.
type Tree struct {
	tree tree.Tree
}

// Hash tells the hash of a text (P3).
func Hash(s string) string { return keccak.Sum(s) }

// Encode tells the code of an item (P4).
func Encode(parts ...api.Part) (string, api.Errno) { return item.Encode(parts...) }

// Decode reads an item (P4).
func Decode(s string) ([]api.Part, api.Errno) { return item.Decode(s) }

// Pack tells the code of a path (P5).
func Pack(path []int, leaf bool) (string, api.Errno) { return paths.Pack(path, leaf) }

// Unpack reads the code of a path (P5).
func Unpack(s string) ([]int, bool, api.Errno) { return paths.Unpack(s) }

// New makes an empty tree over a store (P6).
func New(store ...api.Entry) (*Tree, api.Errno) {
	made, err := tree.New(store...)
	if err != api.OK {
		return nil, err
	}
	return &Tree{tree: made}, api.OK
}

// Root tells the root (P6).
func (t *Tree) Root() string { return t.tree.Root() }

// Get tells the value of a key (P7).
func (t *Tree) Get(key string) (string, api.Errno) { return t.tree.Get(key) }

// Put gives keys values (P8).
func (t *Tree) Put(pairs ...api.Pair) api.Errno { return t.tree.Put(pairs...) }

// Delete takes keys away (P8).
func (t *Tree) Delete(keys ...string) api.Errno { return t.tree.Delete(keys...) }

// Each tells the pairs from a key on (P9).
func (t *Tree) Each(from string, most int) ([]api.Pair, api.Errno) { return t.tree.Each(from, most) }

// Commit brings the tree into the store (P10).
func (t *Tree) Commit() []api.Entry { return t.tree.Commit() }

// Open goes to the tree under a root (P10).
func (t *Tree) Open(root string) api.Errno { return t.tree.Open(root) }

// Prove tells the nodes on a key's path (P11).
func (t *Tree) Prove(key string) ([]string, api.Errno) { return t.tree.Prove(key) }

// Verify tells what a proof says of a key (P12).
func Verify(root string, key string, proof ...string) (string, bool, api.Errno) {
	return tree.Verify(root, key, proof...)
}
