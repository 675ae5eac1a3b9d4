package item

import (
	"math/big"
	"math/rand"
	"slices"
	"strings"
	"testing"
	"unsafe"

	"canopy/api"
)

func list(n int) api.Part { return api.Part{List: true, Count: n} }

func text(s string) api.Part { return api.Part{Data: s} }

func a(n int) string { return strings.Repeat("a", n) }

// nested tells so many lists in one another, the last one empty.
func nested(n int) []api.Part {
	return append(slices.Repeat([]api.Part{list(1)}, n-1), list(0))
}

func flat(n int) []api.Part {
	return append([]api.Part{list(n)}, slices.Repeat([]api.Part{text("b")}, n)...)
}

func join(lists ...[]api.Part) []api.Part { return slices.Concat(lists...) }

func TestCodes(t *testing.T) {
	for _, c := range []struct {
		parts []api.Part
		code  string
	}{
		{[]api.Part{text("")}, "\x80"},
		{[]api.Part{text("\x00")}, "\x00"},
		{[]api.Part{text("\x0f")}, "\x0f"},
		{[]api.Part{text("\x7f")}, "\x7f"},
		{[]api.Part{text("\x80")}, "\x81\x80"},
		{[]api.Part{text("\xff")}, "\x81\xff"},
		{[]api.Part{text("\x01\x02")}, "\x82\x01\x02"},
		{[]api.Part{text("dog")}, "\x83dog"},
		{[]api.Part{text(a(55))}, "\xb7" + a(55)},
		{[]api.Part{text(a(56))}, "\xb8\x38" + a(56)},
		{[]api.Part{text(a(255))}, "\xb8\xff" + a(255)},
		{[]api.Part{text(a(256))}, "\xb9\x01\x00" + a(256)},
		{[]api.Part{text(a(5997))}, "\xb9\x17\x6d" + a(5997)},
		{[]api.Part{list(0)}, "\xc0"},
		{[]api.Part{list(1), text("")}, "\xc1\x80"},
		{[]api.Part{list(2), text("cat"), text("dog")}, "\xc8\x83cat\x83dog"},
		{[]api.Part{list(3), text("x"), list(2), text("y"), list(0), text("zz")}, "\xc7x\xc2y\xc0\x82zz"},
		{[]api.Part{list(1), text(a(54))}, "\xf7\xb6" + a(54)},
		{[]api.Part{list(1), text(a(55))}, "\xf8\x38\xb7" + a(55)},
		{[]api.Part{list(1), text(a(253))}, "\xf8\xff\xb8\xfd" + a(253)},
		{[]api.Part{list(1), text(a(254))}, "\xf9\x01\x00\xb8\xfe" + a(254)},
		{[]api.Part{list(1), text(a(5994))}, "\xf9\x17\x6d\xb9\x17\x6a" + a(5994)},
		{nested(8), "\xc7\xc6\xc5\xc4\xc3\xc2\xc1\xc0"},
		{join(nested(8)[:7], []api.Part{list(1), text("b")}), "\xc8\xc7\xc6\xc5\xc4\xc3\xc2\xc1b"},
		{flat(399), "\xf9\x01\x8f" + strings.Repeat("b", 399)},
	} {
		if code, err := Encode(c.parts...); code != c.code || err != api.OK {
			t.Errorf("P4: Encode(%.60v) = %.40x, %d, want %.40x", c.parts, code, err, c.code)
		}
		if parts, err := Decode(c.code); !slices.Equal(parts, c.parts) || err != api.OK {
			t.Errorf("P4: Decode(%.40x) = %.60v, %d, want %.60v", c.code, parts, err, c.parts)
		}
	}
}

func TestEncodeRefuses(t *testing.T) {
	const greatest = int(^uint(0) >> 1)
	huge := text(a(1 << 20))
	for _, c := range []struct {
		what  string
		parts []api.Part
		err   api.Errno
	}{
		{"no part", nil, api.ErrItem},
		{"a list without its item", []api.Part{list(1)}, api.ErrItem},
		{"an inner list without its item", []api.Part{list(2), text("a"), list(1)}, api.ErrItem},
		{"two texts", []api.Part{text("a"), text("b")}, api.ErrItem},
		{"an empty list and a text", []api.Part{list(0), text("b")}, api.ErrItem},
		{"a list and a list behind it", []api.Part{list(1), text("b"), list(0)}, api.ErrItem},
		{"a count below 0", []api.Part{list(-1)}, api.ErrItem},
		{"a count below 0 inside", []api.Part{list(2), list(-1), text("a"), text("b")}, api.ErrItem},
		{"the least count", []api.Part{list(-greatest - 1)}, api.ErrItem},
		{"the greatest count", []api.Part{list(greatest), text("a")}, api.ErrItem},
		{"a text with a count", []api.Part{{Count: 1}, text("a")}, api.ErrItem},
		{"a text with a count below 0", []api.Part{{Count: -1, Data: "a"}}, api.ErrItem},
		{"a list with data", []api.Part{{List: true, Data: "a"}}, api.ErrItem},
		{"a list with data inside", []api.Part{list(1), {List: true, Count: 1, Data: "a"}, text("b")}, api.ErrItem},
		{"nine lists", nested(9), api.ErrDeep},
		{"400 lists", nested(400), api.ErrDeep},
		{"nine lists behind a text", join([]api.Part{list(2), text("a")}, nested(8)), api.ErrDeep},
		{"nine lists ahead of a text", join([]api.Part{list(2)}, nested(8), []api.Part{text("a")}), api.ErrDeep},
		{"401 parts", flat(400), api.ErrLong},
		{"401 parts that are no item", make([]api.Part, 401), api.ErrLong},
		{"a million parts", make([]api.Part, 1<<20), api.ErrLong},
		{"400 parts that are no item", make([]api.Part, 400), api.ErrItem},
		{"a code of 6001 bytes", []api.Part{text(a(5998))}, api.ErrLong},
		{"a list's code of 6001 bytes", []api.Part{list(1), text(a(5995))}, api.ErrLong},
		{"a text of 6000 bytes", []api.Part{text(a(6000))}, api.ErrLong},
		{"a text of 6001 bytes", []api.Part{text(a(6001))}, api.ErrLong},
		{"a list of 399 huge texts", join([]api.Part{list(399)}, slices.Repeat([]api.Part{huge}, 399)), api.ErrLong},
		{"too long and no item", []api.Part{huge, huge}, api.ErrItem},
		{"too long and too deep", join([]api.Part{list(2), huge}, nested(8)), api.ErrDeep},
		{"too deep and no item", append(nested(9), text("")), api.ErrItem},
	} {
		if code, err := Encode(c.parts...); code != "" || err != c.err {
			t.Errorf("P4: Encode of %s = %.40x, %d, want %d", c.what, code, err, c.err)
		}
	}
}

// Heads and single bytes of all kinds count for the limit, each as it is written.
func TestLongestLists(t *testing.T) {
	for _, c := range []struct {
		data string
		size int
	}{{"b", 1}, {"", 1}, {"\x80", 2}, {a(55), 56}, {a(56), 58}, {a(255), 257}, {a(256), 259}} {
		const times, headOfList, headOfLast = 10, 3, 3
		last := api.MaxText - headOfList - times*c.size - headOfLast
		parts := join([]api.Part{list(times + 1)}, slices.Repeat([]api.Part{text(c.data)}, times), []api.Part{text(a(last))})
		if code, err := Encode(parts...); len(code) != api.MaxText || err != api.OK {
			t.Errorf("P4: with texts of %d bytes: a code of %d, %d", len(c.data), len(code), err)
		}
		parts[times+1] = text(a(last + 1))
		if code, err := Encode(parts...); code != "" || err != api.ErrLong {
			t.Errorf("P4: with texts of %d bytes, one too long: a code of %d, %d", len(c.data), len(code), err)
		}
	}
}

func TestDecodeRefuses(t *testing.T) {
	for _, c := range []struct {
		code string
		err  api.Errno
	}{
		{"", api.ErrShort},
		{"\x81", api.ErrShort},
		{"\x83do", api.ErrShort},
		{"\xb7" + a(54), api.ErrShort},
		{"\xb8", api.ErrShort},
		{"\xb9\x01", api.ErrShort},
		{"\xb9\x00", api.ErrShort},
		{"\xb8\x38" + a(55), api.ErrShort},
		{"\xbf\x00\x00\x00\x00\x00\x00\x00", api.ErrShort},
		{"\xbf\xff\xff\xff\xff\xff\xff\xff\xff", api.ErrShort},
		{"\xbf\x80\x00\x00\x00\x00\x00\x00\x00", api.ErrShort},
		{"\xbf\x01\x00\x00\x00\x00\x00\x00\x01a", api.ErrShort},
		{"\xff\xff\xff\xff\xff\xff\xff\xff\xff", api.ErrShort},
		{"\xff\x7f\xff\xff\xff\xff\xff\xff\xff", api.ErrShort},
		{"\xbb\x80\x00\x00\x01" + a(100), api.ErrShort},
		{"\xc1", api.ErrShort},
		{"\xc3\x83do", api.ErrShort},
		{"\xc2\x82aa", api.ErrShort},
		{"\xc1\xb8\x38" + a(56), api.ErrShort},
		{"\xc2\xb8\x38" + a(56), api.ErrShort},
		{"\xc1\xc1\xc0", api.ErrShort},
		{"\xf8", api.ErrShort},
		{"\xf8\x38" + a(55), api.ErrShort},
		{"\xc1\x81\x05", api.ErrShort},
		{"\xc2\xc1\xc1\xc0", api.ErrShort},

		{"\x81\x00", api.ErrForm},
		{"\x81\x0f", api.ErrForm},
		{"\x81\x7f", api.ErrForm},
		{"\x81\x7fa", api.ErrForm},
		{"\xb8\x00", api.ErrForm},
		{"\xb8\x37" + a(55), api.ErrForm},
		{"\xb8\x37", api.ErrForm},
		{"\xb9\x00\x38", api.ErrForm},
		{"\xb9\x00\x38" + a(56), api.ErrForm},
		{"\xbf\x00\x00\x00\x00\x00\x00\x00\x38" + a(56), api.ErrForm},
		{"\xf8\x37" + strings.Repeat("\x80", 55), api.ErrForm},
		{"\xf9\x00\x38", api.ErrForm},
		{"\xc2\x81\x05", api.ErrForm},
		{"\xc4\x81\x05\x83a", api.ErrForm},
		{"\xc2\xb8\x37" + a(55), api.ErrForm},

		{"\x80\x80", api.ErrRest},
		{"aa", api.ErrRest},
		{"\xc0\xc0", api.ErrRest},
		{"\xc1\x80\x81", api.ErrRest},
		{"\x80" + a(5999), api.ErrRest},
		{"\xf9\x01\x90" + a(401), api.ErrRest},

		{"\xc8\xc7\xc6\xc5\xc4\xc3\xc2\xc1\xc0", api.ErrDeep},
		{"\xc8\xc7\xc6\xc5\xc4\xc3\xc2\xc1\xc0\xc0", api.ErrDeep},
		{"\xc8a\xc6\xc5\xc4\xc3\xc2\xc1\xc0", api.OK},
		{"\xc9a\xc7\xc6\xc5\xc4\xc3\xc2\xc1\xc0", api.ErrDeep},
		{"\xc9\xc8\xc7\xc6\xc5\xc4\xc3\xc2\xc1\x81", api.ErrDeep},
		{"\xc8\xc7\xc6\xc5\xc4\xc3\xc2\xc1\xc1", api.ErrShort},
		{"\xca\xc9\xc8\xc7\xc6\xc5\xc4\xc3\xc2\x81\x05", api.ErrDeep},

		{"\xf9\x01\x8f" + a(399), api.OK},
		{"\xf9\x01\x90" + a(400), api.ErrLong},
		{"\xf9\x17\x6d" + a(5997), api.ErrLong},
		{"\xb9\x17\x6e" + a(5998), api.ErrLong},
		{strings.Repeat("\x80", 6000), api.ErrRest},
		{strings.Repeat("\x80", 6001), api.ErrLong},
		{strings.Repeat("\xc1", 1<<20), api.ErrLong},
	} {
		parts, err := Decode(c.code)
		if err != c.err || err != api.OK && parts != nil {
			t.Errorf("P4: Decode(%.40x), %d bytes = %.60v, %d, want %d", c.code, len(c.code), parts, err, c.err)
		}
	}
}

// slowRead says in another way, with a text cut to its limit and lengths of any
// size, what reading an item is: the parts, what is left behind it, the error.
func slowRead(s string, lists int) ([]api.Part, string, api.Errno) {
	if s == "" {
		return nil, "", api.ErrShort
	}
	first, rest := s[0], s[1:]
	if first < 128 {
		return []api.Part{text(s[:1])}, rest, api.OK
	}
	isList, n := first >= 192, big.NewInt(int64(first%64))
	if first < 192 {
		n.SetInt64(int64(first - 128))
	}
	if bytes := int(n.Int64()) - 55; bytes > 0 {
		if bytes > len(rest) {
			return nil, "", api.ErrShort
		}
		n.SetBytes([]byte(rest[:bytes]))
		if rest[0] == 0 || n.Cmp(big.NewInt(56)) < 0 {
			return nil, "", api.ErrForm
		}
		rest = rest[bytes:]
	}
	if n.Cmp(big.NewInt(int64(len(rest)))) > 0 {
		return nil, "", api.ErrShort
	}
	body, rest := rest[:n.Int64()], rest[n.Int64():]
	if !isList {
		if first == 129 && body[0] < 128 {
			return nil, "", api.ErrForm
		}
		return []api.Part{text(body)}, rest, api.OK
	}
	if lists == 8 {
		return nil, "", api.ErrDeep
	}
	count, inner := 0, []api.Part(nil)
	for ; body != ""; count++ {
		parts, left, err := slowRead(body, lists+1)
		if err != api.OK {
			return nil, "", err
		}
		inner, body = append(inner, parts...), left
	}
	return append([]api.Part{list(count)}, inner...), rest, api.OK
}

func slowDecode(s string) ([]api.Part, api.Errno) {
	if len(s) > 6000 {
		return nil, api.ErrLong
	}
	parts, rest, err := slowRead(s, 0)
	if err == api.OK && rest != "" {
		err = api.ErrRest
	}
	if err == api.OK && len(parts) > 400 {
		err = api.ErrLong
	}
	if err != api.OK {
		parts = nil
	}
	return parts, err
}

func checkText(t *testing.T, code string) {
	t.Helper()
	parts, err := Decode(code)
	want, wantErr := slowDecode(code)
	if !slices.Equal(parts, want) || err != wantErr {
		t.Fatalf("P4: Decode(%x) = %v, %d, want %v, %d", code, parts, err, want, wantErr)
	}
	if err != api.OK {
		return
	}
	if again, err := Encode(parts...); again != code || err != api.OK {
		t.Fatalf("P4: Decode(%x) = %v, whose code is %x, %d", code, parts, again, err)
	}
	data, isText := Text(code)
	items, isList := Items(code)
	if data != parts[0].Data || isText == parts[0].List || isList != parts[0].List || len(items) != parts[0].Count {
		t.Fatalf("Text and Items of %x = %q, %v; %q, %v", code, data, isText, items, isList)
	}
	if isText && TextCode(data) != code || isList && ListCode(items) != code {
		t.Fatalf("%x does not come back from %q, %q", code, data, items)
	}
}

func TestShortTexts(t *testing.T) {
	valid := 0
	for i := range 1 << 16 {
		code := string([]byte{byte(i >> 8), byte(i)})
		checkText(t, code)
		if _, err := Decode(code); err == api.OK {
			valid++
		}
		for _, third := range []byte{0, 55, 56, 127, 128, 129, 192, 193, 255} {
			checkText(t, code+string([]byte{third}))
		}
	}
	// 81 with a byte of 128 or more; c1 with a byte below 129 or with c0.
	if valid != 128+129+1 {
		t.Errorf("P4: %d texts of two bytes are codes", valid)
	}
}

// someItem adds the parts of an item of at most this depth.
func someItem(r *rand.Rand, parts []api.Part, depth int) []api.Part {
	if depth == 0 || r.Intn(2) == 0 {
		sizes := []int{0, 1, 2, 54, 55, 56, 57, 255, 256}
		data := make([]byte, sizes[r.Intn(len(sizes))])
		r.Read(data)
		return append(parts, text(string(data)))
	}
	n := r.Intn(4)
	parts = append(parts, list(n))
	for range n {
		parts = someItem(r, parts, depth-1)
	}
	return parts
}

func TestItemsComeBack(t *testing.T) {
	r := rand.New(rand.NewSource(1))
	done := 0
	for range 20000 {
		parts := someItem(r, nil, api.MaxDepth)
		code, err := Encode(parts...)
		if err == api.ErrLong {
			continue
		}
		done++
		back, errBack := Decode(code)
		if err != api.OK || errBack != api.OK || !slices.Equal(back, parts) {
			t.Fatalf("P4: %v has the code %x, %d, which is read as %v, %d", parts, code, err, back, errBack)
		}
		changed := []byte(code)
		changed[r.Intn(len(changed))] = byte(r.Intn(256))
		checkText(t, string(changed))
		checkText(t, code[:r.Intn(len(code))])
		checkText(t, code+string(changed))
		if _, err := Decode(code + "a"); err != api.ErrRest && len(code) < api.MaxText {
			t.Fatalf("P4: Decode(%x and a byte more) = %d, want ErrRest", code, err)
		}
	}
	if done < 10000 {
		t.Errorf("only %d items had codes", done)
	}
}

func TestTextAndItems(t *testing.T) {
	for _, c := range []struct {
		code  string
		items []string
	}{
		{"\xc0", nil},
		{"\xc8\x83cat\x83dog", []string{"\x83cat", "\x83dog"}},
		{"\xc3a\xc1b", []string{"a", "\xc1b"}},
		{"\xf9\x01\xf5" + a(501), slices.Repeat([]string{"a"}, 501)},
		{"\xc9\xc8\xc7\xc6\xc5\xc4\xc3\xc2\xc1\xc0", []string{"\xc8\xc7\xc6\xc5\xc4\xc3\xc2\xc1\xc0"}},
		{"\xf9\x17\x6d" + a(5997), slices.Repeat([]string{"a"}, 5997)},
	} {
		if items, ok := Items(c.code); !slices.Equal(items, c.items) || !ok {
			t.Errorf("Items(%.40x) = %.40q, %v", c.code, items, ok)
		}
	}
	for _, code := range []string{
		"", "\x80\x80", "aa", "\x81a", "\x82a", "\xb8\x37" + a(55), "\xb9\x00\x38" + a(56), "\xb9\x17\x6e" + a(5998),
		"\xbf\xff\xff\xff\xff\xff\xff\xff\xff" + a(7000),
		"\xc1", "\xc0\xc0", "\xc1\x81", "\xc2\x81a", "\xc2\x82aa", "\xf8\x01a", "\xf9\x17\x6e" + a(5998),
	} {
		if data, ok := Text(code); data != "" || ok {
			t.Errorf("Text(%.40x) = %q, %v", code, data, ok)
		}
		if items, ok := Items(code); items != nil || ok {
			t.Errorf("Items(%.40x) = %q, %v", code, items, ok)
		}
	}
}

func TestArgumentsAndAnswersAreApart(t *testing.T) {
	all := []api.Part{list(2), text("cat"), text("dog"), text("cow")}
	own := slices.Clone(all)
	if _, err := Encode(own[:3]...); err != api.OK || !slices.Equal(own, all) {
		t.Errorf("P2: Encode leaves %v, %d", own, err)
	}
	first, _ := Decode("\xc8\x83cat\x83dog")
	second, _ := Decode("\xc8\x83cat\x83dog")
	clear(first[:cap(first)])
	if !slices.Equal(second, all[:3]) {
		t.Errorf("P2: two answers share memory: %v", second)
	}
}

// A piece of the argument would keep all of it.
func TestTextsAreNotKept(t *testing.T) {
	code := strings.Clone("\xc8\x83cat\x83dog")
	parts, _ := Decode(code)
	for _, p := range parts[1:] {
		for i := range len(code) {
			if unsafe.StringData(p.Data) == unsafe.StringData(code[i:]) {
				t.Errorf("P2: %q is a piece of what was handed in", p.Data)
			}
		}
	}
}
