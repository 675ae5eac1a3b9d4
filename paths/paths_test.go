package paths

import (
	"slices"
	"strings"
	"testing"

	"canopy/api"
)

func numbers(n, first int) []int {
	path := make([]int, n)
	for i := range path {
		path[i] = (first + i) % 16
	}
	return path
}

func TestPackAndUnpack(t *testing.T) {
	for _, c := range []struct {
		path []int
		leaf bool
		code string
	}{
		{nil, false, "\x00"},
		{nil, true, "\x20"},
		{[]int{0}, false, "\x10"},
		{[]int{15}, false, "\x1f"},
		{[]int{0}, true, "\x30"},
		{[]int{15}, true, "\x3f"},
		{[]int{1, 2, 3, 4, 5}, false, "\x11\x23\x45"},
		{[]int{0, 1, 2, 3, 4, 5}, true, "\x20\x01\x23\x45"},
		{[]int{15, 0}, false, "\x00\xf0"},
		{numbers(128, 0), true, "\x20" + strings.Repeat("\x01\x23\x45\x67\x89\xab\xcd\xef", 8)},
		{numbers(127, 1), false, "\x11" + strings.Repeat("\x23\x45\x67\x89\xab\xcd\xef\x01", 8)[:63]},
	} {
		if code, err := Pack(c.path, c.leaf); code != c.code || err != api.OK {
			t.Errorf("P5: Pack(%v, %v) = %x, %d, want %x", c.path, c.leaf, code, err, c.code)
		}
		path, leaf, err := Unpack(c.code)
		if !slices.Equal(path, c.path) || leaf != c.leaf || err != api.OK {
			t.Errorf("P5: Unpack(%x) = %v, %v, %d, want %v, %v", c.code, path, leaf, err, c.path, c.leaf)
		}
	}
}

func TestAllLengthsComeBack(t *testing.T) {
	for n := range 129 {
		for _, leaf := range []bool{false, true} {
			want := numbers(n, n)
			code, err := Pack(want, leaf)
			if err != api.OK || len(code) != 1+n/2 {
				t.Fatalf("P5: Pack of %d numbers: %x, %d", n, code, err)
			}
			path, isLeaf, err := Unpack(code)
			if !slices.Equal(path, want) || isLeaf != leaf || err != api.OK {
				t.Fatalf("P5: Unpack(%x) = %v, %v, %d, want %v, %v", code, path, isLeaf, err, want, leaf)
			}
		}
	}
}

func TestNoPaths(t *testing.T) {
	const greatest = int(^uint(0) >> 1)
	for _, path := range [][]int{
		{16}, {-1}, {0, 16}, {1, -1, 2}, {256}, {greatest}, {-greatest - 1},
		append(make([]int, 127), 16), append(make([]int, 127), -16),
		make([]int, 129), make([]int, 130), make([]int, 1<<20),
	} {
		for _, leaf := range []bool{false, true} {
			if code, err := Pack(path, leaf); code != "" || err != api.ErrPath {
				t.Errorf("P5: Pack(%d numbers, %v) = %x, %d, want ErrPath", len(path), leaf, code, err)
			}
		}
	}
}

func TestFirstBytes(t *testing.T) {
	for first := range 256 {
		right := first == 0 || first == 32 || first>>4 == 1 || first>>4 == 3
		for _, rest := range []string{"", "\xab"} {
			code := string([]byte{byte(first)}) + rest
			path, leaf, err := Unpack(code)
			if !right {
				if path != nil || leaf || err != api.ErrPath {
					t.Errorf("P5: Unpack(%x) = %v, %v, %d, want ErrPath", code, path, leaf, err)
				}
				continue
			}
			if again, _ := Pack(path, leaf); err != api.OK || again != code {
				t.Errorf("P5: Unpack(%x) = %v, %v, %d, whose code is %x", code, path, leaf, err, again)
			}
		}
	}
}

func TestNoPathCodes(t *testing.T) {
	for _, code := range []string{
		"", "\x40", "\x01", "\x21",
		"\x00" + strings.Repeat("a", 65), "\x20" + strings.Repeat("a", 65),
		"\x10" + strings.Repeat("a", 64), "\x3f" + strings.Repeat("a", 64),
		strings.Repeat("\x00", 1<<20),
	} {
		if path, leaf, err := Unpack(code); path != nil || leaf || err != api.ErrPath {
			t.Errorf("P5: Unpack(%.20x), %d bytes = %v, %v, %d, want ErrPath", code, len(code), path, leaf, err)
		}
	}
}

func TestArgumentsAndAnswersAreApart(t *testing.T) {
	list := numbers(9, 3)
	own := list[:5:9]
	if _, err := Pack(own, true); err != api.OK || !slices.Equal(list, numbers(9, 3)) {
		t.Errorf("P2: Pack leaves %v, %d", list, err)
	}
	first, _, _ := Unpack("\x11\x23")
	second, _, _ := Unpack("\x11\x23")
	clear(first[:cap(first)])
	if !slices.Equal(second, []int{1, 2, 3}) {
		t.Errorf("P2: two answers share memory: %v", second)
	}
}

func TestKeys(t *testing.T) {
	for _, c := range []struct {
		key  string
		path []int
	}{
		{"", nil},
		{"\x00", []int{0, 0}},
		{"\x1f\xf1", []int{1, 15, 15, 1}},
		{"oak", []int{6, 15, 6, 1, 6, 11}},
		{strings.Repeat("\x01\x23\x45\x67\x89\xab\xcd\xef", 8), numbers(128, 0)},
	} {
		if path := Of(c.key); !slices.Equal(path, c.path) {
			t.Errorf("Of(%q) = %v, want %v", c.key, path, c.path)
		}
		if key := Key(c.path); key != c.key {
			t.Errorf("Key(%v) = %q, want %q", c.path, key, c.key)
		}
	}
}

func TestShared(t *testing.T) {
	for _, c := range []struct {
		a, b []int
		want int
	}{
		{nil, nil, 0},
		{nil, []int{1}, 0},
		{[]int{1}, []int{2}, 0},
		{[]int{1}, []int{1}, 1},
		{[]int{1, 2}, []int{1, 3}, 1},
		{[]int{1, 2}, []int{1, 2, 0}, 2},
		{[]int{1, 2, 3, 4}, []int{1, 2, 5, 4}, 2},
	} {
		if n, m := Shared(c.a, c.b), Shared(c.b, c.a); n != c.want || m != c.want {
			t.Errorf("Shared(%v, %v) = %d and %d, want %d", c.a, c.b, n, m, c.want)
		}
	}
}
