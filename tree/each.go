package tree

import (
	"iter"
	"slices"
	"strings"

	"canopy/api"
	"canopy/paths"
)

// Each tells the pairs from a key on.
func (t *Tree) Each(from string, most int) ([]api.Pair, api.Errno) {
	first, ok := firstKey(from)
	if !ok || most <= 0 {
		return nil, api.OK
	}
	var found []api.Pair
	for pair, err := range t.store.pairs(spot{to: t.top}, nil, paths.Of(first)) {
		if err != api.OK {
			return nil, err
		}
		found = append(found, pair)
		if len(found) == min(most, api.MaxEach) {
			break
		}
	}
	return found, api.OK
}

// firstKey tells the least text that may be a key and is not below from, if
// there is one. It differs from a text that is too long for a key, and is then
// the next one behind all that begins like it.
func firstKey(from string) (string, bool) {
	if len(from) <= api.MaxKey {
		return from, true
	}
	end := api.MaxKey
	for end > 0 && from[end-1] == 255 {
		end--
	}
	if end == 0 {
		return "", false
	}
	return from[:end-1] + string([]byte{from[end-1] + 1}), true
}

// pairs goes through what the node at a spot, to which a path leads, holds, by
// rising keys from the first path on. A node is read when its turn comes, and
// only if such a key may be under it; one that can't be is told as an error.
func (s store) pairs(at spot, path, first []int) iter.Seq2[api.Pair, api.Errno] {
	return func(yield func(api.Pair, api.Errno) bool) {
		if at.to.isEmpty() || !mayReach(path, first) {
			return
		}
		n, err := s.read(at)
		if err != api.OK {
			yield(api.Pair{}, err)
			return
		}
		for p := range n.parts() {
			whole := slices.Concat(path, p.path)
			for pair, err := range s.pairsOf(p, n, whole, first) {
				if !yield(pair, err) {
					return
				}
			}
		}
	}
}

// pairsOf goes through what a part of a node, to which a path leads, holds.
func (s store) pairsOf(p part, above node, path, first []int) iter.Seq2[api.Pair, api.Errno] {
	if p.value == "" {
		return s.pairs(spot{to: p.to, above: above, depth: len(path)}, path, first)
	}
	return func(yield func(api.Pair, api.Errno) bool) {
		if slices.Compare(path, first) >= 0 {
			yield(api.Pair{Key: paths.Key(path), Value: strings.Clone(p.value)}, api.OK)
		}
	}
}

// mayReach tells whether some key that begins with a path is not below first.
func mayReach(path, first []int) bool {
	return slices.Compare(path, first[:min(len(path), len(first))]) >= 0
}
