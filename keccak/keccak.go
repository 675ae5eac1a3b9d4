// Package keccak: the hash of a text, Keccak-256.
package keccak

import "math/bits"

const (
	rate   = 136 // bytes of a block
	rounds = 24
	size   = 32 // bytes of a hash
)

// state has the word A[x][y] at x + 5*y, so that word k of a block meets word
// k of the state.
type state [25]uint64

var roundConstants = [rounds]uint64{
	0x0000000000000001, 0x0000000000008082, 0x800000000000808a, 0x8000000080008000,
	0x000000000000808b, 0x0000000080000001, 0x8000000080008081, 0x8000000000008009,
	0x000000000000008a, 0x0000000000000088, 0x0000000080008009, 0x000000008000000a,
	0x000000008000808b, 0x800000000000008b, 0x8000000000008089, 0x8000000000008003,
	0x8000000000008002, 0x8000000000000080, 0x000000000000800a, 0x800000008000000a,
	0x8000000080008081, 0x8000000000008080, 0x0000000080000001, 0x8000000080008008,
}

var turns = [25]int{
	0, 1, 62, 28, 27,
	36, 44, 6, 55, 20,
	3, 10, 43, 25, 39,
	41, 45, 15, 21, 8,
	18, 2, 61, 56, 14,
}

// Sum tells the hash of a text.
func Sum(s string) string {
	var a state
	for len(s) >= rate {
		a.absorb(s[:rate])
		s = s[rate:]
	}
	a.absorb(padded(s))
	return a.hash()
}

// padded fills a block up. A rest of rate-1 bytes has one byte for both marks,
// which is why the last one is joined and not set.
func padded(rest string) string {
	block := make([]byte, rate)
	copy(block, rest)
	block[len(rest)] = 1
	block[rate-1] |= 128
	return string(block)
}

func (a *state) absorb(block string) {
	for k := range rate / 8 {
		a[k] ^= word(block[8*k : 8*k+8])
	}
	a.permute()
}

func word(s string) uint64 {
	var w uint64
	for i := range 8 {
		w |= uint64(s[i]) << (8 * i)
	}
	return w
}

func (a *state) hash() string {
	sum := make([]byte, size)
	for i := range sum {
		sum[i] = byte(a[i/8] >> (8 * (i % 8)))
	}
	return string(sum)
}

func (a *state) permute() {
	for round := range rounds {
		a.theta()
		a.chi(a.rhoPi())
		a[0] ^= roundConstants[round]
	}
}

func (a *state) theta() {
	var column [5]uint64
	for i, w := range a {
		column[i%5] ^= w
	}
	for i := range a {
		x := i % 5
		a[i] ^= column[(x+4)%5] ^ bits.RotateLeft64(column[(x+1)%5], 1)
	}
}

func (a *state) rhoPi() state {
	var b state
	for i, w := range a {
		x, y := i%5, i/5
		b[y+5*((2*x+3*y)%5)] = bits.RotateLeft64(w, turns[i])
	}
	return b
}

func (a *state) chi(b state) {
	for i := range a {
		x, row := i%5, i-i%5
		a[i] = b[i] ^ (^b[row+(x+1)%5] & b[row+(x+2)%5])
	}
}
