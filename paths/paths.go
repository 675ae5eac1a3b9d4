// Package paths: paths, which are lists of numbers from 0 to 15, and their
// codes.
package paths

import "canopy/api"

const (
	most     = 2 * api.MaxKey // numbers of a path
	oddMark  = 1              // in the first half of a code: its other half is a number
	leafMark = 2              // in the first half of a code: it is a leaf's
)

// Pack tells the code of a path.
func Pack(path []int, leaf bool) (string, api.Errno) {
	if !isPath(path) {
		return "", api.ErrPath
	}
	return string(joined(withMark(path, leaf))), api.OK
}

func isPath(path []int) bool {
	if len(path) > most {
		return false
	}
	for _, n := range path {
		if n < 0 || n > 15 {
			return false
		}
	}
	return true
}

// withMark tells the halves of a path's code: their number is even, as a 0
// fills the first byte up where no number does.
func withMark(path []int, leaf bool) []int {
	mark := 0
	if leaf {
		mark = leafMark
	}
	halves := make([]int, 0, len(path)+2)
	if len(path)%2 == 1 {
		halves = append(halves, mark+oddMark)
	} else {
		halves = append(halves, mark, 0)
	}
	return append(halves, path...)
}

func joined(halves []int) []byte {
	code := make([]byte, len(halves)/2)
	for i := range code {
		code[i] = byte(halves[2*i]<<4 | halves[2*i+1])
	}
	return code
}

// Unpack reads the code of a path, and whether it is a leaf's.
func Unpack(s string) ([]int, bool, api.Errno) {
	if s == "" || len(s) > 1+most/2 {
		return nil, false, api.ErrPath
	}
	mark, second := int(s[0]>>4), int(s[0]&15)
	odd := mark&oddMark != 0
	if mark > leafMark+oddMark || !odd && second != 0 || odd && len(s) > most/2 {
		return nil, false, api.ErrPath
	}
	ahead := 2
	if odd {
		ahead = 1
	}
	return Of(s)[ahead:], mark&leafMark != 0, api.OK
}

// Of tells the path of a key.
func Of(key string) []int {
	path := make([]int, 0, 2*len(key))
	for i := range len(key) {
		path = append(path, int(key[i]>>4), int(key[i]&15))
	}
	return path
}

// Key tells the key that has a path, which is one of an even number of numbers.
func Key(path []int) string { return string(joined(path)) }

// Shared tells how many numbers two paths begin with alike.
func Shared(a, b []int) int {
	n := 0
	for n < len(a) && n < len(b) && a[n] == b[n] {
		n++
	}
	return n
}
