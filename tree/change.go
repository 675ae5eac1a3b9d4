package tree

import (
	"slices"
	"strings"

	"canopy/api"
	"canopy/paths"
)

// Put gives keys values, or deletes those whose values are empty.
func (t *Tree) Put(pairs ...api.Pair) api.Errno {
	for _, p := range pairs {
		if len(p.Key) > api.MaxKey {
			return api.ErrKey
		}
	}
	for _, p := range pairs {
		if len(p.Value) > api.MaxValue {
			return api.ErrValue
		}
	}
	return change(t, pairs, func(top ref, p api.Pair) (ref, api.Errno) {
		if p.Value == "" {
			return t.store.drop(top, paths.Of(p.Key))
		}
		return t.store.put(spot{to: top}, paths.Of(p.Key), strings.Clone(p.Value))
	})
}

// Delete takes keys away.
func (t *Tree) Delete(keys ...string) api.Errno {
	for _, key := range keys {
		if len(key) > api.MaxKey {
			return api.ErrKey
		}
	}
	return change(t, keys, func(top ref, key string) (ref, api.Errno) {
		return t.store.drop(top, paths.Of(key))
	})
}

// change makes one change after the other, or none at all if one fails.
func change[T any](t *Tree, list []T, one func(ref, T) (ref, api.Errno)) api.Errno {
	top := t.top
	for _, x := range list {
		next, err := one(top, x)
		if err != api.OK {
			return err
		}
		top = next
	}
	t.top = top
	return api.OK
}

func (s store) put(at spot, path []int, value string) (ref, api.Errno) {
	if at.to.isEmpty() {
		return ref{node: newLeaf(path, value)}, api.OK
	}
	n, err := s.read(at)
	if err != api.OK {
		return ref{}, err
	}
	made, err := n.put(s, at.depth, path, value)
	return ref{node: made}, err
}

func (l *leaf) put(s store, depth int, path []int, value string) (node, api.Errno) {
	if slices.Equal(l.path, path) {
		return newLeaf(path, value), api.OK
	}
	n := paths.Shared(l.path, path)
	fork := &branch{}
	fork.hang(l.path[n:], l.value)
	fork.hang(path[n:], value)
	return ahead(path[:n], ref{node: fork}, fork), api.OK
}

func (e *extension) put(s store, depth int, path []int, value string) (node, api.Errno) {
	n := paths.Shared(e.path, path)
	if n == len(e.path) {
		to, err := s.put(e.under(depth), path[n:], value)
		return &extension{path: e.path, to: to}, err
	}
	fork := &branch{}
	fork.refs[e.path[n]] = e.behind(n + 1)
	fork.hang(path[n:], value)
	return ahead(path[:n], ref{node: fork}, fork), api.OK
}

func (b *branch) put(s store, depth int, path []int, value string) (node, api.Errno) {
	changed := *b
	if len(path) == 0 {
		changed.value = value
		return &changed, api.OK
	}
	to, err := s.put(b.under(path[0], depth), path[1:], value)
	changed.refs[path[0]] = to
	return &changed, err
}

// drop takes a path's value away, if it is there.
func (s store) drop(top ref, path []int) (ref, api.Errno) {
	switch _, err := get(s.read, top, path); err {
	case api.OK:
		left, err := s.remove(spot{to: top}, path)
		return ref{node: left}, err
	case api.ErrNone:
		return top, api.OK
	default:
		return ref{}, err
	}
}

func (s store) remove(at spot, path []int) (node, api.Errno) {
	n, err := s.read(at)
	if err != api.OK {
		return nil, err
	}
	return n.remove(s, at.depth, path)
}

func (l *leaf) remove(s store, depth int, path []int) (node, api.Errno) {
	return nil, api.OK
}

func (e *extension) remove(s store, depth int, path []int) (node, api.Errno) {
	left, err := s.remove(e.under(depth), path[len(e.path):])
	if err != api.OK {
		return nil, err
	}
	return ahead(e.path, ref{node: left}, left), api.OK
}

func (b *branch) remove(s store, depth int, path []int) (node, api.Errno) {
	changed := *b
	if len(path) == 0 {
		changed.value = ""
		return changed.settled(s, depth)
	}
	left, err := s.remove(b.under(path[0], depth), path[1:])
	if err != api.OK {
		return nil, err
	}
	changed.refs[path[0]] = ref{node: left}
	return changed.settled(s, depth)
}

// settled tells what stands in the place of a branch that has lost something:
// the branch itself only if two things at least are left.
func (b *branch) settled(s store, depth int) (node, api.Errno) {
	left := slices.Collect(b.parts())
	if len(left) > 1 {
		return b, api.OK
	}
	only := left[0]
	if only.value != "" {
		return newLeaf(only.path, only.value), api.OK
	}
	n, err := s.read(b.under(only.path[0], depth))
	if err != api.OK {
		return nil, err
	}
	return ahead(only.path, only.to, n), api.OK
}

// ahead tells the node that holds what n does, with a path ahead of it. A
// branch can't take the path up and stays behind its reference.
func ahead(path []int, to ref, n node) node {
	switch n := n.(type) {
	case *leaf:
		return newLeaf(slices.Concat(path, n.path), n.value)
	case *extension:
		return &extension{path: slices.Concat(path, n.path), to: n.to}
	}
	if len(path) == 0 {
		return n
	}
	return &extension{path: slices.Clone(path), to: to}
}

// newLeaf copies the path, which may be the end of a much longer one.
func newLeaf(path []int, value string) *leaf {
	return &leaf{path: slices.Clone(path), value: value}
}

// hang gives a path that a new branch holds nothing under yet a value.
func (b *branch) hang(path []int, value string) {
	if len(path) == 0 {
		b.value = value
		return
	}
	b.refs[path[0]] = ref{node: newLeaf(path[1:], value)}
}

// behind tells a reference to what the extension holds, without so many of its
// first numbers.
func (e *extension) behind(n int) ref {
	if n == len(e.path) {
		return e.to
	}
	return ref{node: &extension{path: slices.Clone(e.path[n:]), to: e.to}}
}

func (e *extension) under(depth int) spot {
	return spot{to: e.to, above: e, depth: depth + len(e.path)}
}

func (b *branch) under(number, depth int) spot {
	return spot{to: b.refs[number], above: b, depth: depth + 1}
}
