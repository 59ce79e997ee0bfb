// Package bits: word arithmetic, hashing, pseudo-random numbers and varints (chapter 1).
package bits

const (
	wordBits = 32 // bits of a word

	hashPrime = 1099511628211 // of the 64-bit FNV-1a hash

	seedStep = 0x9E3779B97F4A7C15 // distance between two seeds of SplitMix64
	mixFirst = 0xBF58476D1CE4E5B9
	mixLast  = 0x94D049BB133111EB

	groupBits = 7
	groupMask = 1<<groupBits - 1
	groupMore = 1 << groupBits // marks every byte of an encoding except the last one
	maxGroups = 10             // groups of a number of 64 bits
)

// SignExtend reads the low n bits of x as a signed number.
func SignExtend(x uint32, n int) uint32 {
	if n < 1 {
		return 0
	}
	if n >= wordBits {
		return x
	}
	unused := wordBits - n
	return uint32(int32(x<<unused) >> unused)
}

// Field returns the n bits of w from bit low on.
func Field(w uint32, low, n int) uint32 {
	if !hasField(low, n) {
		return 0
	}
	return w >> low & lowMask(n)
}

// SetField replaces the n bits of w from bit low on by the low n bits of v.
func SetField(w uint32, low, n int, v uint32) uint32 {
	if !hasField(low, n) {
		return w
	}
	mask := lowMask(n) << low
	return w&^mask | v<<low&mask
}

// hasField leaves out an upper bound for n: a field may reach beyond bit 31.
func hasField(low, n int) bool {
	return low >= 0 && low < wordBits && n >= 1
}

// lowMask returns a word with the low n bits set; n is at least 1.
func lowMask(n int) uint32 {
	if n >= wordBits {
		return 1<<wordBits - 1
	}
	return 1<<n - 1
}

// Divide returns the quotient and the remainder of signed numbers, as the guest's processor does: it defines a result for every divisor.
func Divide(a, b uint32) (uint32, uint32) {
	if b == 0 {
		return 0xFFFFFFFF, a
	}
	// The one overflow, 0x80000000 / -1, needs no case: Go defines its quotient as the dividend and its remainder as 0.
	x, y := int32(a), int32(b)
	return uint32(x / y), uint32(x % y)
}

// Hash continues the FNV-1a hash h with the bytes of s.
func Hash(h uint64, s string) uint64 {
	// Ranging over s itself would yield runes instead of bytes.
	for i := range len(s) {
		h = (h ^ uint64(s[i])) * hashPrime
	}
	return h
}

// Next returns a value of SplitMix64 and the seed for the next one.
func Next(seed uint64) (uint64, uint64) {
	seed += seedStep
	z := (seed ^ seed>>30) * mixFirst
	z = (z ^ z>>27) * mixLast
	return z ^ z>>31, seed
}

// PutUvarint returns the shortest encoding of x in groups of seven bits.
func PutUvarint(x uint64) string {
	var code [maxGroups]byte
	last := countGroups(x) - 1
	for i := range last {
		code[i] = byte(x&groupMask | groupMore)
		x >>= groupBits
	}
	code[last] = byte(x)
	return string(code[:last+1])
}

// countGroups counts one group for 0, too: its encoding is not empty.
func countGroups(x uint64) int {
	for n := range maxGroups {
		x >>= groupBits
		if x == 0 {
			return n + 1
		}
	}
	return maxGroups
}

// Uvarint returns the number whose encoding s begins with, and the length of that encoding.
func Uvarint(s string) (uint64, int, bool) {
	var x uint64
	for i := range min(len(s), maxGroups) {
		b := s[i]
		x |= uint64(b&groupMask) << (groupBits * i)
		if b < groupMore {
			if !endsUvarint(b, i) {
				return 0, 0, false
			}
			return x, i + 1, true
		}
	}
	return 0, 0, false
}

// endsUvarint tells whether an encoding may end with b at index i: a last group of 0 would be superfluous unless it is the only one, and the tenth group has room for bit 63 alone.
func endsUvarint(b byte, i int) bool {
	if i > 0 && b == 0 {
		return false
	}
	return i < maxGroups-1 || b <= 1
}
