package trial

import (
	"strconv"
	"strings"

	"quietus/api"
	"quietus/arena"
	"quietus/fnv"
	"quietus/mem"
)

// NewTable is the number of a table more.
func NewTable(t T, m *mem.Mem, n int) int {
	t.Helper()
	i, e := m.Table(n)
	if e != api.OK {
		t.Fatalf("Table(%d) = %d, %v", n, i, e)
	}
	return i
}

// Count has a table count.
func Count(m *mem.Mem, number int) { m.Cells.Store(currentCell, uint64(number)) }

// WrongNumbers are words that aren't the number of a table, of so many, great ones among them whose low bits are.
func WrongNumbers(tables uint64) []uint64 {
	l := []uint64{tables, tables + 1}
	for _, word := range Words() {
		if word >= tables {
			l = append(l, word)
		}
	}
	return l
}

// LockOf is the lock of a sum, of n buckets.
func LockOf(sum uint32, n int) int { return firstWriter + int(sum%uint32(n))%writers }

// BucketOf is a key's bucket of n.
func BucketOf(key string, n int) int { return int(fnv.Sum(key) % uint32(n)) }

// CellIn is the cell of a key's bucket, of a table.
func CellIn(desc mem.Desc, key string) int { return desc.Base + BucketOf(key, desc.N) }

// CellOf is the cell of a key's bucket, of the table that counts.
func CellOf(m *mem.Mem, key string) int { return CellIn(m.Now(), key) }

// NewNode is a node of a key, by its sum.
func NewNode(key, val string) arena.Node {
	return arena.Node{Key: key, Val: val, Sum: fnv.Sum(key)}
}

// Others are so many nodes of other keys, all of the bucket of n in which a key is.
func Others(key string, n, count int) []arena.Node {
	var l []arena.Node
	for i := 0; len(l) < count; i++ {
		other := "o" + strconv.Itoa(i)
		if BucketOf(other, n) == BucketOf(key, n) {
			l = append(l, NewNode(other, "v"+other))
		}
	}
	return l
}

// Keys are keys of all kinds, the empty one among them, and such that are nearly the same.
func Keys() []string {
	return []string{
		"", "\x00", "\x00\x00", " ", "k", "K", "kk", "k ", " k", "k\x00", "key", "0", "00", "\xc3\xa4", "a\xcc\x88", "\xff", "\xff\xfe",
		strings.Repeat("k", 31), strings.Repeat("k", 32), strings.Repeat("k", 33), strings.Repeat("k", 31) + "l", strings.Repeat("k", 1000),
	}
}

// KeyOf is the key of a node that is live.
func KeyOf(m *mem.Mem, h arena.Handle) string {
	node, _ := m.Arena.Read(h)
	return node.Key
}

// ValOf is the value that a key has now, and whether it is there.
func ValOf(m *mem.Mem, key string) (string, bool) {
	for _, h := range m.Chain(BucketOf(key, m.Now().N)) {
		if node, _ := m.Arena.Read(h); node.Key == key {
			return node.Val, true
		}
	}
	return "", false
}
