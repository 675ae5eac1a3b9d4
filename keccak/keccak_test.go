package keccak

import (
	"crypto/sha3"
	"encoding/hex"
	"strings"
	"testing"
)

func TestSumOfKnownTexts(t *testing.T) {
	for _, c := range []struct{ text, want string }{
		{"", "c5d2460186f7233c927e7db2dcc703c0e500b653ca82273b7bfad8045d85a470"},
		{"\x80", "56e81f171bcc55a6ff8345e692c0f86e5b48e01b996cadc001622fb5e363b421"},
		{"abc", "4e03657aea45a94fc7d47ba826c8d667c0d1e6e33a64a036ec44f58fa12d6c45"},
		{"The quick brown fox jumps over the lazy dog", "4d741b6f1eb29cb2a9b9911c82f56fa8d73b04959d3d9d222895df6c0b28aa15"},
		{strings.Repeat("a", 135), "34367dc248bbd832f4e3e69dfaac2f92638bd0bbd18f2912ba4ef454919cf446"},
		{strings.Repeat("a", 136), "a6c4d403279fe3e0af03729caada8374b5ca54d8065329a3ebcaeb4b60aa386e"},
		{strings.Repeat("a", 137), "d869f639c7046b4929fc92a4d988a8b22c55fbadb802c0c66ebcd484f1915f39"},
		{"\xca\x84\x20oak\x84tree", "78d6cda490e7c39ad20460373d9fa33041169baf533804f2dc7234217dcb959a"},
	} {
		if got := hex.EncodeToString([]byte(Sum(c.text))); got != c.want {
			t.Errorf("P3: Sum of %d bytes %.20q = %s, want %s", len(c.text), c.text, got, c.want)
		}
	}
}

// sha3Sum is SHA3-256 over this package's state: only the padding differs, so
// it holds the permutation and the blocks against the library's.
func sha3Sum(s string) string {
	pad := make([]byte, rate-len(s)%rate)
	pad[0] = 6
	pad[len(pad)-1] |= 128
	var a state
	for s += string(pad); s != ""; s = s[rate:] {
		a.absorb(s[:rate])
	}
	return a.hash()
}

func TestStateAgainstSHA3(t *testing.T) {
	text := make([]byte, 5*rate)
	for i := range text {
		text[i] = byte(i*i + 7*i + i>>3)
	}
	for n := range len(text) + 1 {
		want := sha3.Sum256(text[:n])
		if got := sha3Sum(string(text[:n])); got != string(want[:]) {
			t.Fatalf("P3: the state tells %x for %d bytes, want %x", got, n, want)
		}
	}
}

func TestPadding(t *testing.T) {
	for n := range rate {
		rest := strings.Repeat("x", n)
		want := rest + "\x01" + strings.Repeat("\x00", rate-n-1)
		want = want[:rate-1] + string([]byte{want[rate-1] | 128})
		if got := padded(rest); got != want {
			t.Errorf("P3: %d bytes are padded to %x, want %x", n, got, want)
		}
	}
}

func TestSumOfLongTexts(t *testing.T) {
	seen := map[string]int{}
	for _, n := range []int{0, 1, 135, 136, 137, 271, 272, 273, 6000, 1 << 20, 1<<20 + 1} {
		sum := Sum(strings.Repeat("\x00", n))
		if len(sum) != 32 {
			t.Errorf("P3: the hash of %d bytes has %d", n, len(sum))
		}
		if m, ok := seen[sum]; ok {
			t.Errorf("P3: %d and %d bytes have one hash", m, n)
		}
		seen[sum] = n
	}
}
