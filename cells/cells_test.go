package cells

import (
	"math"
	"math/bits"
	"slices"
	"testing"

	"quietus/api"
)

// most is written out, so that the tests don't lean on the limit's name.
const most = 1 << 20

// wrongCounts are numbers of cells that are too many, or below 0, however many there are already.
func wrongCounts() []int {
	l := []int{
		-1, -2, -3, -most, -most - 1, math.MinInt32, math.MinInt, math.MinInt + 1,
		most + 1, most + 2, 2 * most, 1 << 30, math.MaxInt32,
		math.MaxInt, math.MaxInt - 1, math.MaxInt - 2, math.MaxInt - 3, math.MaxInt - most,
	}
	if bits.UintSize == 64 {
		high := 1 << (bits.UintSize / 2)
		l = append(l, high, high+1, high+most, -high, 1-high)
	}
	return l
}

// notThere are numbers of cells that aren't there, of so many.
func notThere(n int) []int {
	l := []int{
		-1, -2, -n, -n - 1, n, n + 1, 2*n + 1, most, most + 1, -most,
		math.MaxInt32, math.MinInt32, math.MaxInt, math.MaxInt - 1, math.MinInt, math.MinInt + 1,
	}
	if bits.UintSize == 64 {
		high := 1 << (bits.UintSize / 2)
		l = append(l, high, high+1, -high, 1-high)
	}
	return slices.DeleteFunc(l, func(i int) bool { return i >= 0 && i < n })
}

// someWords are words at both ends, and such of which either half is 0.
func someWords() []uint64 {
	l := []uint64{0, 1, 2, 3, 1<<32 - 1, 1 << 32, 1<<32 + 1, 1 << 63, 1<<63 - 1, 1<<63 + 1, math.MaxUint64 - 1, math.MaxUint64}
	for i := range 20 {
		l = append(l, uint64(i)*0x9e3779b97f4a7c15)
	}
	return l
}

// newCells are cells that have these words.
func newCells(t *testing.T, words ...uint64) *Cells {
	t.Helper()
	c, e := New(len(words))
	if c == nil || e != api.OK {
		t.Fatalf("New(%d) = %v, %v", len(words), c, e)
	}
	for i, w := range words {
		if e := c.Store(i, w); e != api.OK {
			t.Fatalf("Store(%d, %d) = %v", i, w, e)
		}
	}
	return c
}

// checkWords says whether the cells are as many as these words, and each has its word.
func checkWords(t *testing.T, what string, c *Cells, words ...uint64) {
	t.Helper()
	if c.Len() != len(words) {
		t.Fatalf("%s: Len() = %d, not %d", what, c.Len(), len(words))
	}
	for i, w := range words {
		if v, e := c.Load(i); v != w || e != api.OK {
			t.Fatalf("%s: Load(%d) = %d, %v, not %d", what, i, v, e, w)
		}
	}
}

// P2.1: New makes so many cells, each 0, from none up to the limit.
func TestNew(t *testing.T) {
	for _, n := range []int{0, 1, 2, 3, 5, 8, 100, 65536, most - 1, most} {
		c, e := New(n)
		if c == nil || e != api.OK {
			t.Fatalf("New(%d) = %v, %v", n, c, e)
		}
		checkWords(t, "New", c, make([]uint64, n)...)
		for _, i := range notThere(n) {
			if v, e := c.Load(i); v != 0 || e != api.ErrRange {
				t.Errorf("of %d cells Load(%d) = %d, %v", n, i, v, e)
			}
		}
	}
}

// P2.1: New of too many cells, or of a number below 0, is ErrRange, and nil.
func TestNewWrong(t *testing.T) {
	for _, n := range wrongCounts() {
		if c, e := New(n); c != nil || e != api.ErrRange {
			t.Errorf("New(%d) = %v, %v", n, c, e)
		}
	}
}

// R5: cells hang on what was done to them, not on what was done to others.
func TestNewApart(t *testing.T) {
	one, two := newCells(t, 1, 2), newCells(t, 3, 4)
	one.Store(0, 9)
	one.Grow(2)
	two.Add(1, 5)
	checkWords(t, "the one", one, 9, 2, 0, 0)
	checkWords(t, "the other", two, 3, 9)
}

// P2.1: the word that is stored is loaded, each time, and no other cell changes.
func TestStore(t *testing.T) {
	for _, w := range someWords() {
		for i := range 3 {
			want := []uint64{7, 8, math.MaxUint64}
			c := newCells(t, want...)
			want[i] = w
			if e := c.Store(i, w); e != api.OK {
				t.Errorf("Store(%d, %d) = %v", i, w, e)
			}
			checkWords(t, "Store", c, want...)
			checkWords(t, "Store, loaded again", c, want...)
		}
	}
}

// P2.1: Add answers the new word, which is there then, and no other cell changes.
func TestAdd(t *testing.T) {
	known := []struct{ word, v, sum uint64 }{
		{0, 0, 0},
		{0, 3, 3},
		{3, 0, 3},
		{5, math.MaxUint64, 4},
		{math.MaxUint64, 1, 0},
		{math.MaxUint64, 2, 1},
		{math.MaxUint64 - 1, 1, math.MaxUint64},
		{math.MaxUint64, math.MaxUint64, math.MaxUint64 - 1},
		{1 << 63, 1 << 63, 0},
		{1 << 63, 1<<63 - 1, math.MaxUint64},
		{math.MaxUint32, 1, 1 << 32},
		{math.MaxInt64, 1, 1 << 63},
	}
	for _, k := range known {
		for i := range 3 {
			want := []uint64{7, 8, math.MaxUint64}
			want[i] = k.word
			c := newCells(t, want...)
			want[i] = k.sum
			if v, e := c.Add(i, k.v); v != k.sum || e != api.OK {
				t.Errorf("of the word %d Add(%d, %d) = %d, %v, not %d", k.word, i, k.v, v, e, k.sum)
			}
			checkWords(t, "Add", c, want...)
		}
	}
}

// P2.1: Add goes on from what the one ahead of it left, past 2^64.
func TestAddAgain(t *testing.T) {
	c := newCells(t, math.MaxUint64-2, 6)
	for _, want := range []uint64{math.MaxUint64 - 1, math.MaxUint64, 0, 1, 2} {
		if v, e := c.Add(0, 1); v != want || e != api.OK {
			t.Errorf("Add(0, 1) = %d, %v, not %d", v, e, want)
		}
	}
	checkWords(t, "Add", c, 2, 6)
}

// P2.1: Swap of the word that is there is true, and sets it; no other cell changes.
func TestSwapOld(t *testing.T) {
	for _, old := range someWords() {
		for _, next := range []uint64{0, 1, 9, old, old + 1, math.MaxUint64} {
			for i := range 3 {
				want := []uint64{old, old, old}
				c := newCells(t, want...)
				want[i] = next
				if ok, e := c.Swap(i, old, next); !ok || e != api.OK {
					t.Errorf("Swap(%d, %d, %d) = %v, %v", i, old, next, ok, e)
				}
				checkWords(t, "Swap", c, want...)
			}
		}
	}
}

// P2.1: Swap of a word that isn't there is false, without an error, and changes nothing.
func TestSwapOther(t *testing.T) {
	for _, word := range someWords() {
		for _, old := range []uint64{word + 1, word - 1, ^word, word ^ 1<<63, word ^ 1<<32} {
			c := newCells(t, old, word, old)
			for _, next := range []uint64{0, 9, word, old} {
				if ok, e := c.Swap(1, old, next); ok || e != api.OK {
					t.Errorf("of the word %d Swap(1, %d, %d) = %v, %v", word, old, next, ok, e)
				}
			}
			checkWords(t, "Swap", c, old, word, old)
		}
	}
}

// P2.1: of two swaps from the same word on the first alone is true.
func TestSwapTwice(t *testing.T) {
	c := newCells(t, 4)
	if ok, e := c.Swap(0, 4, 5); !ok || e != api.OK {
		t.Errorf("the first Swap = %v, %v", ok, e)
	}
	if ok, e := c.Swap(0, 4, 6); ok || e != api.OK {
		t.Errorf("the second Swap = %v, %v", ok, e)
	}
	checkWords(t, "Swap", c, 5)
}

// P2.1: of a cell that isn't there each call is ErrRange, with zero results, and changes nothing.
func TestNoSuchCell(t *testing.T) {
	for _, words := range [][]uint64{{}, {0}, {5}, {1, 2}, {math.MaxUint64, 0, 3}} {
		c := newCells(t, words...)
		for _, i := range notThere(len(words)) {
			if v, e := c.Load(i); v != 0 || e != api.ErrRange {
				t.Errorf("of %d cells Load(%d) = %d, %v", len(words), i, v, e)
			}
			if e := c.Store(i, 77); e != api.ErrRange {
				t.Errorf("of %d cells Store(%d) = %v", len(words), i, e)
			}
			if v, e := c.Add(i, 77); v != 0 || e != api.ErrRange {
				t.Errorf("of %d cells Add(%d) = %d, %v", len(words), i, v, e)
			}
			for _, old := range []uint64{0, 3, 5, math.MaxUint64} {
				if ok, e := c.Swap(i, old, 77); ok || e != api.ErrRange {
					t.Errorf("of %d cells Swap(%d, %d) = %v, %v", len(words), i, old, ok, e)
				}
			}
			checkWords(t, "no such cell", c, words...)
		}
	}
}

// P2.1: Grow puts cells of the word 0 behind those that are there, and answers the first one's number.
func TestGrow(t *testing.T) {
	for _, n := range []int{0, 1, 2, 3, 7, 64, 1000} {
		for _, words := range [][]uint64{{}, {5}, {1, math.MaxUint64, 3}} {
			c := newCells(t, words...)
			if first, e := c.Grow(n); first != len(words) || e != api.OK {
				t.Errorf("of %d cells Grow(%d) = %d, %v", len(words), n, first, e)
			}
			want := append(slices.Clone(words), make([]uint64, n)...)
			checkWords(t, "Grow", c, want...)
			if v, e := c.Load(len(want)); v != 0 || e != api.ErrRange {
				t.Errorf("behind %d cells Load = %d, %v", len(want), v, e)
			}
		}
	}
}

// P2.1: however often it grows, the cells keep their words, and the new ones are 0, and cells like others.
func TestGrowAgain(t *testing.T) {
	c := newCells(t)
	want := []uint64{}
	for n := range 60 {
		if first, e := c.Grow(n); first != len(want) || e != api.OK {
			t.Fatalf("of %d cells Grow(%d) = %d, %v", len(want), n, first, e)
		}
		want = append(want, make([]uint64, n)...)
		checkWords(t, "Grow", c, want...)
		for i := len(want) - n; i < len(want); i++ {
			want[i] = math.MaxUint64 - uint64(i)
			if ok, e := c.Swap(i, 0, want[i]); !ok || e != api.OK {
				t.Fatalf("of a new cell Swap(%d) = %v, %v", i, ok, e)
			}
		}
		checkWords(t, "Swap", c, want...)
	}
}

// P2.1: Grow of 0 answers Len, and changes nothing: of no cells, of some, of all that may be.
func TestGrowNone(t *testing.T) {
	for _, n := range []int{0, 1, 5, most - 1, most} {
		c := newCells(t, make([]uint64, n)...)
		for range 2 {
			if first, e := c.Grow(0); first != n || e != api.OK || c.Len() != n {
				t.Errorf("of %d cells Grow(0) = %d, %v, then Len() = %d", n, first, e, c.Len())
			}
		}
	}
}

// P2.1: Grow up to the limit in all, wherever it begins; of one more it is -1, ErrRange, and changes nothing.
func TestGrowMost(t *testing.T) {
	for _, n := range []int{0, 1, 2, most / 2, most - 2, most - 1} {
		c := newCells(t, make([]uint64, n)...)
		if first, e := c.Grow(most - n + 1); first != -1 || e != api.ErrRange || c.Len() != n {
			t.Errorf("of %d cells Grow of one too many = %d, %v, then Len() = %d", n, first, e, c.Len())
		}
		if first, e := c.Grow(most - n); first != n || e != api.OK || c.Len() != most {
			t.Errorf("of %d cells Grow up to the limit = %d, %v, then Len() = %d", n, first, e, c.Len())
		}
		if e := c.Store(most-1, 9); e != api.OK {
			t.Errorf("Store into the last cell = %v", e)
		}
		if first, e := c.Grow(1); first != -1 || e != api.ErrRange || c.Len() != most {
			t.Errorf("Grow(1) at the limit = %d, %v, then Len() = %d", first, e, c.Len())
		}
		if v, e := c.Load(most - 1); v != 9 || e != api.OK {
			t.Errorf("Load of the last cell = %d, %v", v, e)
		}
	}
}

// P2.1: Grow of too many, or of a number below 0, is -1 and ErrRange, and changes nothing.
func TestGrowWrong(t *testing.T) {
	for _, words := range [][]uint64{{}, {5}, {1, math.MaxUint64, 3}} {
		c := newCells(t, words...)
		for _, n := range wrongCounts() {
			if first, e := c.Grow(n); first != -1 || e != api.ErrRange {
				t.Errorf("of %d cells Grow(%d) = %d, %v", len(words), n, first, e)
			}
			checkWords(t, "Grow of a wrong number", c, words...)
		}
		if first, e := c.Grow(1); first != len(words) || e != api.OK {
			t.Errorf("behind errors Grow(1) = %d, %v", first, e)
		}
	}
}

// P2.1: a row of calls of all kinds, right and wrong ones: each sees what those ahead of it left.
func TestRow(t *testing.T) {
	c := newCells(t)
	want := []uint64{}
	pick := uint32(1)
	next := func(n int) int {
		pick = pick*1664525 + 1013904223
		return int(pick>>8) % n
	}
	for range 20000 {
		// One cell more than there are, on either side.
		i, v := next(len(want)+2)-1, uint64(next(4))-2
		there := i >= 0 && i < len(want)
		switch kind := next(40); {
		case kind == 0 && len(want) < 40:
			n := next(5) - 1
			first, e := c.Grow(n)
			if n < 0 && (first != -1 || e != api.ErrRange) || n >= 0 && (first != len(want) || e != api.OK) {
				t.Fatalf("of %d cells Grow(%d) = %d, %v", len(want), n, first, e)
			}
			want = append(want, make([]uint64, max(n, 0))...)
		case !there:
			checkNotThere(t, c, i, v)
		case kind < 10:
			if e := c.Store(i, v); e != api.OK {
				t.Fatalf("Store(%d, %d) = %v", i, v, e)
			}
			want[i] = v
		case kind < 25:
			want[i] += v
			if sum, e := c.Add(i, v); sum != want[i] || e != api.OK {
				t.Fatalf("Add(%d, %d) = %d, %v, not %d", i, v, sum, e, want[i])
			}
		default:
			is := want[i] == v
			if ok, e := c.Swap(i, v, v+1); ok != is || e != api.OK {
				t.Fatalf("of the word %d Swap(%d, %d) = %v, %v", want[i], i, v, ok, e)
			}
			if is {
				want[i] = v + 1
			}
		}
		checkWords(t, "a row of calls", c, want...)
	}
	if len(want) < 40 {
		t.Errorf("the row came to %d cells alone", len(want))
	}
}

// checkNotThere says whether all calls of this cell are ErrRange.
func checkNotThere(t *testing.T, c *Cells, i int, v uint64) {
	t.Helper()
	_, load := c.Load(i)
	_, add := c.Add(i, v)
	_, swap := c.Swap(i, v, v+1)
	for _, e := range []api.Errno{load, c.Store(i, v), add, swap} {
		if e != api.ErrRange {
			t.Fatalf("of %d cells a call of cell %d = %v", c.Len(), i, e)
		}
	}
}

// P2.1: the chapter's example.
func TestExample(t *testing.T) {
	c := newCells(t, 0)
	if v, e := c.Add(0, 3); v != 3 || e != api.OK {
		t.Errorf("Add(0, 3) = %d, %v", v, e)
	}
	if ok, e := c.Swap(0, 3, 9); !ok || e != api.OK {
		t.Errorf("Swap(0, 3, 9) = %v, %v", ok, e)
	}
	checkWords(t, "the example", c, 9)
}
