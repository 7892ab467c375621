// Package fnv is layer 1: see shared/doc/01-fnv.md.
package fnv

const (
	offset = 2166136261
	prime  = 16777619
	// This layer calls nothing, so the limit stands here, and not by its name in api.
	most = 65536
)

// Sum is the sum of a text.
func Sum(s string) uint32 {
	sum := uint32(offset)
	// Ranging over s itself would go by runes; the sum is made of bytes.
	for i := range len(s) {
		sum ^= uint32(s[i])
		sum *= prime
	}
	return sum
}

// Power says whether a number is a power of two that may be.
func Power(n int) bool {
	return n >= 1 && n <= most && n&(n-1) == 0
}

// Bucket is a sum's bucket; 0, if n is no power of two that may be.
func Bucket(sum uint32, n int) int {
	if !Power(n) {
		return 0
	}
	return int(sum % uint32(n))
}
