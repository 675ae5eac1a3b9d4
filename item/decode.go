package item

import (
	"strings"

	"canopy/api"
)

// Decode reads the item whose code a text is.
func Decode(s string) ([]api.Part, api.Errno) {
	if len(s) > api.MaxText {
		return nil, api.ErrLong
	}
	r := reader{text: s}
	end, err := r.read(0, len(s), 0)
	switch {
	case err != api.OK:
		return nil, err
	case end != len(s):
		return nil, api.ErrRest
	case len(r.parts) > api.MaxItems:
		return nil, api.ErrLong
	}
	return r.parts, api.OK
}

// Text tells the bytes whose code a text of at most MaxText bytes is.
func Text(code string) (string, bool) {
	h, ok := wholeHead(code)
	if !ok || h.list {
		return "", false
	}
	return code[h.start:h.end], true
}

// Items tells the codes of the items of the list whose code a text of at most
// MaxText bytes is. What is in these items is not looked at, so that there may
// be any number of parts.
func Items(code string) ([]string, bool) {
	h, ok := wholeHead(code)
	if !ok || !h.list {
		return nil, false
	}
	var items []string
	for at := h.start; at < h.end; {
		inner, err := readHead(code, at, h.end)
		if err != api.OK {
			return nil, false
		}
		items = append(items, code[at:inner.end])
		at = inner.end
	}
	return items, true
}

// wholeHead reads the head of the item that a text is from its beginning to its
// end.
func wholeHead(code string) (head, bool) {
	if len(code) > api.MaxText {
		return head{}, false
	}
	h, err := readHead(code, 0, len(code))
	return h, err == api.OK && h.end == len(code)
}

type reader struct {
	text  string
	parts []api.Part
}

// read adds the parts of the item at a place, which is inside of so many lists
// and must end by a limit, and tells where it ends.
func (r *reader) read(at, limit, lists int) (int, api.Errno) {
	h, err := readHead(r.text, at, limit)
	if err != api.OK {
		return 0, err
	}
	if h.list {
		return h.end, r.readList(h, lists)
	}
	data := strings.Clone(r.text[h.start:h.end])
	r.parts = append(r.parts, api.Part{Data: data})
	return h.end, api.OK
}

func (r *reader) readList(h head, lists int) api.Errno {
	if lists >= api.MaxDepth {
		return api.ErrDeep
	}
	own := len(r.parts)
	r.parts = append(r.parts, api.Part{List: true})
	for at := h.start; at < h.end; {
		next, err := r.read(at, h.end, lists+1)
		if err != api.OK {
			return err
		}
		at = next
		r.parts[own].Count++
	}
	return api.OK
}

// head: where the bytes that an item's head speaks of begin and end.
type head struct {
	list       bool
	start, end int
}

func readHead(s string, at, limit int) (head, api.Errno) {
	if at >= limit {
		return head{}, api.ErrShort
	}
	first := int(s[at])
	if first < textMark {
		return head{start: at, end: at + 1}, api.OK
	}
	h := head{list: first >= listMark, start: at + 1}
	size := first - textMark
	if h.list {
		size = first - listMark
	}
	if size > shortMost {
		long, err := readLength(s, h.start, size-shortMost, limit)
		if err != api.OK {
			return head{}, err
		}
		h.start += size - shortMost
		size = long
	}
	if size > limit-h.start {
		return head{}, api.ErrShort
	}
	h.end = h.start + size
	if !h.list && isOwnCode(s[h.start:h.end]) {
		return head{}, api.ErrForm
	}
	return h, api.OK
}

// readLength reads a length of up to 8 bytes. One above MaxText goes beyond any
// limit, so it is cut down to what an int is sure to hold.
func readLength(s string, at, bytes, limit int) (int, api.Errno) {
	if bytes > limit-at {
		return 0, api.ErrShort
	}
	if s[at] == 0 {
		return 0, api.ErrForm
	}
	var length uint64
	for i := range bytes {
		length = length<<8 | uint64(s[at+i])
	}
	if length <= shortMost {
		return 0, api.ErrForm
	}
	return int(min(length, api.MaxText+1)), api.OK
}
