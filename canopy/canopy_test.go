package canopy

import (
	"encoding/hex"
	"slices"
	"strings"
	"testing"

	"canopy/api"
)

func bytesOf(t *testing.T, digits string) string {
	t.Helper()
	b, err := hex.DecodeString(strings.ReplaceAll(digits, " ", ""))
	if err != nil {
		t.Fatal(err)
	}
	return string(b)
}

func TestHash(t *testing.T) {
	for _, c := range []struct{ text, want string }{
		{"", "c5d2460186f7233c927e7db2dcc703c0e500b653ca82273b7bfad8045d85a470"},
		{"abc", "4e03657aea45a94fc7d47ba826c8d667c0d1e6e33a64a036ec44f58fa12d6c45"},
		{"\x80", "56e81f171bcc55a6ff8345e692c0f86e5b48e01b996cadc001622fb5e363b421"},
		{bytesOf(t, "ca 84 20 6f 61 6b 84 74 72 65 65"), "78d6cda490e7c39ad20460373d9fa33041169baf533804f2dc7234217dcb959a"},
	} {
		if got := Hash(c.text); got != bytesOf(t, c.want) {
			t.Errorf("P3: Hash(%q) = %x, want %s", c.text, got, c.want)
		}
	}
}

func TestEncodeAndDecode(t *testing.T) {
	long := strings.Repeat("a", 56)
	for _, c := range []struct {
		parts []api.Part
		code  string
	}{
		{[]api.Part{{Data: "dog"}}, "83 64 6f 67"},
		{[]api.Part{{List: true, Count: 2}, {Data: "cat"}, {Data: "dog"}}, "c8 83 63 61 74 83 64 6f 67"},
		{[]api.Part{{}}, "80"},
		{[]api.Part{{List: true}}, "c0"},
		{[]api.Part{{Data: "\x0f"}}, "0f"},
		{[]api.Part{{Data: long}}, "b8 38" + hex.EncodeToString([]byte(long))},
	} {
		want := bytesOf(t, c.code)
		if code, err := Encode(c.parts...); code != want || err != api.OK {
			t.Errorf("P4: Encode(%v) = %x, %d, want %s", c.parts, code, err, c.code)
		}
		if parts, err := Decode(want); !slices.Equal(parts, c.parts) || err != api.OK {
			t.Errorf("P4: Decode(%s) = %v, %d, want %v", c.code, parts, err, c.parts)
		}
	}
}

func TestDecodeRefuses(t *testing.T) {
	for _, c := range []struct {
		code string
		err  api.Errno
	}{
		{"81 0f", api.ErrForm},
		{"b8 37" + strings.Repeat("61", 55), api.ErrForm},
		{"b9 00 38", api.ErrForm},
		{"83 64 6f", api.ErrShort},
		{"c1", api.ErrShort},
		{"c3 83 64 6f", api.ErrShort},
		{"80 80", api.ErrRest},
		{"c8 c7 c6 c5 c4 c3 c2 c1 c0", api.ErrDeep},
	} {
		if parts, err := Decode(bytesOf(t, c.code)); parts != nil || err != c.err {
			t.Errorf("P4: Decode(%s) = %v, %d, want %d", c.code, parts, err, c.err)
		}
	}
}

func TestPackAndUnpack(t *testing.T) {
	for _, c := range []struct {
		path []int
		leaf bool
		code string
	}{
		{[]int{1, 2, 3, 4, 5}, false, "11 23 45"},
		{[]int{0, 1, 2, 3, 4, 5}, true, "20 01 23 45"},
		{nil, false, "00"},
		{nil, true, "20"},
	} {
		want := bytesOf(t, c.code)
		if code, err := Pack(c.path, c.leaf); code != want || err != api.OK {
			t.Errorf("P5: Pack(%v, %v) = %x, %d, want %s", c.path, c.leaf, code, err, c.code)
		}
		path, leaf, err := Unpack(want)
		if !slices.Equal(path, c.path) || leaf != c.leaf || err != api.OK {
			t.Errorf("P5: Unpack(%s) = %v, %v, %d, want %v, %v", c.code, path, leaf, err, c.path, c.leaf)
		}
	}
	for _, code := range []string{"", "40", "01", "21"} {
		if path, leaf, err := Unpack(bytesOf(t, code)); path != nil || leaf || err != api.ErrPath {
			t.Errorf("P5: Unpack(%s) = %v, %v, %d, want ErrPath", code, path, leaf, err)
		}
	}
}

func TestHugeArguments(t *testing.T) {
	const greatest = int(^uint(0) >> 1)
	huge := strings.Repeat("\xff", 1<<22)
	if sum := Hash(huge); len(sum) != 32 {
		t.Errorf("P1: Hash of %d bytes = %x", len(huge), sum)
	}
	if code, err := Encode(make([]api.Part, 1<<20)...); code != "" || err != api.ErrLong {
		t.Errorf("P1: Encode of a million parts = %x, %d", code, err)
	}
	if code, err := Encode(api.Part{List: true, Count: greatest}, api.Part{Data: huge}); code != "" || err != api.ErrItem {
		t.Errorf("P1: Encode of the greatest count = %x, %d", code, err)
	}
	if parts, err := Decode(huge); parts != nil || err != api.ErrLong {
		t.Errorf("P1: Decode of %d bytes = %v, %d", len(huge), parts, err)
	}
	if code, err := Pack([]int{greatest, -greatest - 1}, true); code != "" || err != api.ErrPath {
		t.Errorf("P1: Pack of great numbers = %x, %d", code, err)
	}
	if path, leaf, err := Unpack(huge); path != nil || leaf || err != api.ErrPath {
		t.Errorf("P1: Unpack of %d bytes = %v, %v, %d", len(huge), path, leaf, err)
	}
}

func TestAnswersHangOnArgumentsAlone(t *testing.T) {
	parts := []api.Part{{List: true, Count: 2}, {Data: "cat"}, {Data: "dog"}}
	path := []int{1, 2, 3}
	for range 3 {
		code, _ := Encode(parts...)
		back, _ := Decode(code)
		packed, _ := Pack(path, true)
		numbers, leaf, _ := Unpack(packed)
		if !slices.Equal(back, parts) || !slices.Equal(numbers, path) || !leaf {
			t.Fatalf("P2: %v, %v, %v come back", back, numbers, leaf)
		}
		if Hash(code) != Hash(strings.Clone(code)) {
			t.Fatalf("P2: Hash(%x) is not always the same", code)
		}
		// What the caller does with an answer is not seen by later calls.
		clear(back[:cap(back)])
		clear(numbers[:cap(numbers)])
	}
}
