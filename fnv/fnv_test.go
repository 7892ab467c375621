package fnv

import (
	hashfnv "hash/fnv"
	"math"
	"math/bits"
	"strings"
	"testing"
)

// powers are written out, so that the tests don't reckon them as Power does.
var powers = []int{1, 2, 4, 8, 16, 32, 64, 128, 256, 512, 1024, 2048, 4096, 8192, 16384, 32768, 65536}

// wrongSizes are numbers of buckets that may not be: at the edges, below 0, and such whose low half alone would do.
func wrongSizes() []int {
	l := []int{
		0, 3, 5, 6, 7, 9, 12, 100, 65535, 65537, 65538, 98304, 131071, 131072, 131073, 1 << 20, 1 << 30,
		-1, -2, -3, -4, -65536, -65537, -131072,
		math.MaxInt32, math.MinInt32, math.MaxInt, math.MaxInt - 1, math.MinInt, math.MinInt + 1, math.MinInt + 2,
	}
	if bits.UintSize == 64 {
		high := 1 << (bits.UintSize / 2)
		l = append(l, high, high+1, high+8, high+65536, high<<1, high<<30, -high, 1-high, 8-high)
	}
	return l
}

// someSums are sums of all kinds of high and low bits, the greatest one among them.
func someSums() []uint32 {
	l := []uint32{0, 7, 0x2d, 65535, 65537, 0xfffeffff, 0xffff0000, math.MaxInt32, math.MaxUint32}
	for i := range 32 {
		l = append(l, 1<<i, ^uint32(1<<i))
	}
	for i := range 300 {
		l = append(l, uint32(i)*2654435769)
	}
	return l
}

// someTexts are texts of each single byte, of runes, of what is no rune, and long ones.
func someTexts() []string {
	l := []string{
		"", "ab", "ba", "foobar", "\x00\x00", "a\x00b", "a\x00c", "Grüße", "日本", "\xff\xfe", "a\xc3", "\uFFFD",
		strings.Repeat("k", 32), strings.Repeat("k", 33), strings.Repeat("\x00", 1000), strings.Repeat("é", 50000),
	}
	for b := range 256 {
		l = append(l, string([]byte{byte(b)}), string([]byte{'x', byte(b), 'y'}))
	}
	return l
}

// P1.1: sums that are known from elsewhere, that of the empty text first.
func TestSumKnown(t *testing.T) {
	known := []struct {
		text string
		sum  uint32
	}{
		{"", 2166136261},
		{"a", 0xe40c292c},
		{"b", 0xe70c2de5},
		{"c", 0xe60c2c52},
		{"ab", 0x4d2505ca},
		{"ba", 0x3c2ba6cc},
		{"foobar", 0xbf9cf968},
		{"hello world", 0xd58b3fa7},
		{"\x00", 0x050c5d1f},
		{"\xff", 0x7a0b824e},
		{"é", 0x1e9de8c1},
		{"日本", 0x9f26ee51},
	}
	for _, k := range known {
		if sum := Sum(k.text); sum != k.sum {
			t.Errorf("Sum(%q) = %08x, not %08x", k.text, sum, k.sum)
		}
	}
}

// P1.1: a text's sum is that of the library's FNV-1a, whatever its bytes are.
func TestSumAgainstLibrary(t *testing.T) {
	for _, text := range someTexts() {
		h := hashfnv.New32a()
		h.Write([]byte(text))
		if sum := Sum(text); sum != h.Sum32() {
			t.Errorf("Sum of %.40q (%d bytes) = %08x, not %08x", text, len(text), sum, h.Sum32())
		}
	}
}

// R5: the same text has the same sum each time, wherever it stands.
func TestSumAgain(t *testing.T) {
	whole := "xfoobary"
	for range 3 {
		if sum := Sum(whole[1:7]); sum != 0xbf9cf968 {
			t.Fatalf("Sum of a piece of a text = %08x", sum)
		}
		Sum(whole)
	}
}

// P1.1: of all numbers round the limit, and below 0, just the 17 powers are such.
func TestPowerNear(t *testing.T) {
	is := map[int]bool{}
	for _, n := range powers {
		is[n] = true
	}
	for n := -140000; n <= 280000; n++ {
		if Power(n) != is[n] {
			t.Errorf("Power(%d) = %v", n, Power(n))
		}
	}
}

// P1.1: numbers far off are no such powers, though they have one bit, or such low bits.
func TestPowerFar(t *testing.T) {
	for _, n := range wrongSizes() {
		if Power(n) {
			t.Errorf("Power(%d) = true", n)
		}
	}
	for shift := 17; shift < bits.UintSize; shift++ {
		if n := 1 << shift; Power(n) || Power(-n) || Power(n+1) {
			t.Errorf("Power near 2^%d is true", shift)
		}
	}
}

// P1.1: a few buckets by hand.
func TestBucketKnown(t *testing.T) {
	known := []struct {
		sum       uint32
		n, bucket int
	}{
		{0, 1, 0},
		{math.MaxUint32, 1, 0},
		{0x2d, 8, 5},
		{0xe40c292c, 2, 0},
		{0xe40c292c, 16, 12},
		{0xe40c292c, 65536, 0x292c},
		{math.MaxUint32, 2, 1},
		{math.MaxUint32, 65536, 65535},
		{1 << 31, 65536, 0},
		{65536, 65536, 0},
		{65536, 32768, 0},
		{32768, 65536, 32768},
	}
	for _, k := range known {
		if b := Bucket(k.sum, k.n); b != k.bucket {
			t.Errorf("Bucket(%d, %d) = %d, not %d", k.sum, k.n, b, k.bucket)
		}
	}
}

// P1.1: the bucket is the sum modulo n, for each n that may be.
func TestBucketModulo(t *testing.T) {
	for _, n := range powers {
		for _, sum := range someSums() {
			want := int(uint64(sum) % uint64(n))
			if b := Bucket(sum, n); b != want {
				t.Errorf("Bucket(%d, %d) = %d, not %d", sum, n, b, want)
			}
		}
	}
}

// P1.1: the bucket is 0 for an n that may not be; it doesn't panic.
func TestBucketWrongSize(t *testing.T) {
	for _, n := range wrongSizes() {
		for _, sum := range someSums() {
			if b := Bucket(sum, n); b != 0 {
				t.Errorf("Bucket(%d, %d) = %d, not 0", sum, n, b)
			}
		}
	}
}

// P1.2: of twice as many buckets a sum's is the same, or n more; and of either kind there are some.
func TestBucketTwice(t *testing.T) {
	for _, n := range powers[:len(powers)-1] {
		same, more := 0, 0
		for _, sum := range someSums() {
			switch one, two := Bucket(sum, n), Bucket(sum, 2*n); two {
			case one:
				same++
			case one + n:
				more++
			default:
				t.Errorf("Bucket(%d, %d) = %d, Bucket(%d, %d) = %d", sum, n, one, sum, 2*n, two)
			}
		}
		if same == 0 || more == 0 {
			t.Errorf("from %d buckets to %d: %d sums stay, %d go", n, 2*n, same, more)
		}
	}
}
