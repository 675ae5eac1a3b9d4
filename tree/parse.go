package tree

import (
	"slices"

	"canopy/api"
	"canopy/item"
	"canopy/paths"
)

const deepest = 2 * api.MaxKey // how many numbers may be on the way to a value

// parse tells the node whose code a text is, if it may stand at a depth, with
// all the nodes that are inside of it.
func parse(code string, depth int) (node, bool) {
	items, ok := item.Items(code)
	if !ok {
		return nil, false
	}
	switch len(items) {
	case 2:
		return parsePathed(items[0], items[1], depth)
	case width + 1:
		return parseBranch(items, depth)
	}
	return nil, false
}

// parsePathed reads what begins with a path: a leaf or an extension.
func parsePathed(first, second string, depth int) (node, bool) {
	packed, ok := item.Text(first)
	if !ok {
		return nil, false
	}
	path, isLeaf, err := paths.Unpack(packed)
	end := depth + len(path)
	if err != api.OK || end > deepest {
		return nil, false
	}
	if isLeaf {
		value, ok := parseValue(second, end)
		return &leaf{path: path, value: value}, ok && value != ""
	}
	to, ok := parseRef(second, end)
	e := &extension{path: path, to: to}
	return e, ok && len(path) > 0 && !to.isEmpty() && (to.node == nil || fits(e, to.node))
}

func parseBranch(items []string, depth int) (node, bool) {
	if depth+1 > deepest {
		return nil, false
	}
	b := &branch{}
	for i := range b.refs {
		to, ok := parseRef(items[i], depth+1)
		if !ok {
			return nil, false
		}
		b.refs[i] = to
	}
	value, ok := parseValue(items[width], depth)
	b.value = value
	return b, ok && len(slices.Collect(b.parts())) > 1
}

// parseValue reads a value, or the empty text where there is none.
func parseValue(code string, depth int) (string, bool) {
	value, ok := item.Text(code)
	return value, ok && len(value) <= api.MaxValue && (value == "" || depth%2 == 0)
}

func parseRef(code string, depth int) (ref, bool) {
	if text, ok := item.Text(code); ok {
		return ref{hash: text}, text == "" || len(text) == hashSize
	}
	if len(code) >= hashSize {
		return ref{}, false
	}
	n, ok := parse(code, depth)
	return ref{node: n}, ok
}

// fits tells whether a node may be referred to by the one above it.
func fits(above, n node) bool {
	if _, ok := above.(*extension); !ok {
		return true
	}
	_, ok := n.(*branch)
	return ok
}
