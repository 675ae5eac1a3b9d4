// Package item: items, which are bytes or lists of items, and their codes.
package item

import (
	"slices"
	"strings"

	"canopy/api"
)

const (
	textMark  = 128 // ahead of bytes, plus their length
	listMark  = 192 // ahead of a list, plus its items' length
	shortMost = 55  // the greatest length that the first byte itself tells
)

// Encode tells the code of the item that the parts are.
func Encode(parts ...api.Part) (string, api.Errno) {
	if len(parts) > api.MaxItems {
		return "", api.ErrLong
	}
	m, ok := fold(parts, measureText, measureList)
	switch {
	case !ok:
		return "", api.ErrItem
	case m.depth > api.MaxDepth:
		return "", api.ErrDeep
	case m.size > api.MaxText:
		return "", api.ErrLong
	}
	code, _ := fold(parts, TextCode, ListCode)
	return code, api.OK
}

// fold goes from the last part to the first, so that a list's items are ready
// ahead of the list. It tells false if the parts are not just one item.
func fold[T any](parts []api.Part, text func(string) T, list func([]T) T) (T, bool) {
	var none T
	ready := make([]T, len(parts))
	first := len(parts)
	for i := len(parts) - 1; i >= 0; i-- {
		p := parts[i]
		if !sound(p) || p.Count > len(ready)-first {
			return none, false
		}
		var made T
		if p.List {
			made = list(ready[first : first+p.Count])
		} else {
			made = text(p.Data)
		}
		first += p.Count - 1
		ready[first] = made
	}
	if first != len(ready)-1 {
		return none, false
	}
	return ready[first], true
}

func sound(p api.Part) bool {
	if p.List {
		return p.Count >= 0 && p.Data == ""
	}
	return p.Count == 0
}

// measure is what decides whether an item may have a code at all; it is taken
// first, so that no code of a huge item is ever built.
type measure struct {
	size, depth int
}

func measureText(data string) measure {
	if isOwnCode(data) {
		return measure{size: 1}
	}
	return measure{size: codeSize(len(data))}
}

func measureList(items []measure) measure {
	size, depth := 0, 0
	for _, m := range items {
		size += m.size
		depth = max(depth, m.depth)
	}
	return measure{size: codeSize(size), depth: depth + 1}
}

// codeSize tells the size of a code with a head ahead of n bytes. Whatever is
// too long counts as one too many, so that sums of sizes stay small.
func codeSize(n int) int {
	if n > api.MaxText {
		return api.MaxText + 1
	}
	if n <= shortMost {
		return 1 + n
	}
	return min(1+len(lengthBytes(n))+n, api.MaxText+1)
}

// TextCode tells the code of bytes of any length.
func TextCode(data string) string {
	if isOwnCode(data) {
		return strings.Clone(data)
	}
	return withHead(textMark, data)
}

// ListCode tells the code of the list of items that have these codes.
func ListCode(codes []string) string {
	return withHead(listMark, strings.Join(codes, ""))
}

func isOwnCode(data string) bool {
	return len(data) == 1 && data[0] < textMark
}

func withHead(mark int, body string) string {
	if len(body) <= shortMost {
		return string([]byte{byte(mark + len(body))}) + body
	}
	length := lengthBytes(len(body))
	return string([]byte{byte(mark + shortMost + len(length))}) + length + body
}

func lengthBytes(n int) string {
	var b []byte
	for ; n > 0; n >>= 8 {
		b = append(b, byte(n))
	}
	slices.Reverse(b)
	return string(b)
}
