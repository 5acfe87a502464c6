// Package quad is numbers as sectors have them: in four bytes each, the highest first.
package quad

import "math"

// Bytes is how many bytes a number takes.
const Bytes = 4

// Fits tells whether a number has room in its bytes; one below 0 has none, as it is great without its sign.
func Fits(n int) bool {
	return uint64(n) <= math.MaxUint32
}

// Print is a number in its bytes; of one that has no room in them, what of it has.
func Print(n int) string {
	return string([]byte{byte(n >> 24), byte(n >> 16), byte(n >> 8), byte(n)})
}

// At is the number whose bytes stand at that place; 0 where there aren't as many.
func At(s string, at int) int {
	if at < 0 || at > len(s)-Bytes {
		return 0
	}
	return int(s[at])<<24 | int(s[at+1])<<16 | int(s[at+2])<<8 | int(s[at+3])
}
