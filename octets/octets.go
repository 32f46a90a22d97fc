// Package octets is layer 1: see shared/doc/01-octets.md.
package octets

import "math"

// longest is how long an answer is promised to be, at most: a longer one could exhaust the memory.
const longest = math.MaxInt32

// Num is the number of the n bytes of b from at on.
func Num(b []byte, at, n int) (uint64, bool) {
	// at+n could wrap round, so at is held against the last place where n bytes fit.
	if !isWidth(n) || at < 0 || at > len(b)-n {
		return 0, false
	}
	var x uint64
	for i := range n {
		x = x<<8 | uint64(b[at+i])
	}
	return x, true
}

// Put is b, and behind it the n low bytes of x.
func Put(b []byte, n int, x uint64) []byte {
	if !isWidth(n) {
		return extended(b, 0)
	}
	out := extended(b, n)
	for i := range n {
		out[len(out)-1-i] = byte(x >> (8 * i))
	}
	return out
}

// Sat is the sum of a and b, or the greatest number if that is too great for one.
func Sat(a, b uint64) uint64 {
	if a > math.MaxUint64-b {
		return math.MaxUint64
	}
	return a + b
}

// Same tells whether a and b are the same bytes. It goes through all of them, so that how long it takes doesn't tell a forger how much of a tag is right.
func Same(a, b []byte) bool {
	var differ byte
	for i := range max(len(a), len(b)) {
		differ |= byteAt(a, i) ^ byteAt(b, i)
	}
	return differ == 0 && len(a) == len(b)
}

// Fill is b with zeros behind it, up to a length that n divides.
func Fill(b []byte, n int) []byte {
	if n < 1 {
		return extended(b, 0)
	}
	lacking := (n - len(b)%n) % n
	if lacking > longest-len(b) {
		return extended(b, 0)
	}
	return extended(b, lacking)
}

// isWidth tells whether a number may have n bytes.
func isWidth(n int) bool {
	return n >= 1 && n <= 8
}

// byteAt stands in a zero for what is behind the end, so that bytes of unlike lengths are gone through alike.
func byteAt(b []byte, i int) byte {
	if i >= len(b) {
		return 0
	}
	return b[i]
}

// extended copies b even where it adds nothing: an answer shares no memory with what was handed in, nor uses its spare room.
func extended(b []byte, more int) []byte {
	out := make([]byte, len(b)+more)
	copy(out, b)
	return out
}
