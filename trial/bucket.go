package trial

import (
	"strconv"
	"strings"

	"quietus/api"
	"quietus/arena"
	"quietus/fnv"
	"quietus/mem"
)

// NewTable is the number of a table more.
func NewTable(t T, m *mem.Mem, n int) int {
	t.Helper()
	i, e := m.Table(n)
	if e != api.OK {
		t.Fatalf("Table(%d) = %d, %v", n, i, e)
	}
	return i
}

// Count has a table count.
func Count(m *mem.Mem, number int) { m.Cells.Store(currentCell, uint64(number)) }

// WrongNumbers are words that aren't the number of a table, of so many, great ones among them whose low bits are.
func WrongNumbers(tables uint64) []uint64 {
	l := []uint64{tables, tables + 1}
	for _, word := range Words() {
		if word >= tables {
			l = append(l, word)
		}
	}
	return l
}

// LockOf is the lock of a sum, of n buckets.
func LockOf(sum uint32, n int) int { return firstWriter + int(sum%uint32(n))%writers }

// BucketOf is a key's bucket of n.
func BucketOf(key string, n int) int { return int(fnv.Sum(key) % uint32(n)) }

// CellIn is the cell of a key's bucket, of a table.
func CellIn(desc mem.Desc, key string) int { return desc.Base + BucketOf(key, desc.N) }

// CellOf is the cell of a key's bucket, of the table that counts.
func CellOf(m *mem.Mem, key string) int { return CellIn(m.Now(), key) }

// Home is a key, its sum, and the bucket of n, and the lock, that are its own.
type Home struct {
	Key             string
	Sum             uint32
	N, Bucket, Lock int
}

// Homes are written out, so that tests don't lean on how they are reckoned.
func Homes() []Home {
	return []Home{
		{"", 0x811c9dc5, 1, 0, 1}, {"", 0x811c9dc5, 8, 5, 2}, {"", 0x811c9dc5, 256, 0xc5, 2}, {"", 0x811c9dc5, 65536, 0x9dc5, 2},
		{"a", 0xe40c292c, 1, 0, 1}, {"a", 0xe40c292c, 8, 4, 1}, {"a", 0xe40c292c, 256, 0x2c, 1}, {"a", 0xe40c292c, 65536, 0x292c, 1},
		{"b", 0xe70c2de5, 2, 1, 2}, {"b", 0xe70c2de5, 4, 1, 2}, {"b", 0xe70c2de5, 1024, 0x1e5, 2}, {"b", 0xe70c2de5, 65536, 0x2de5, 2},
		{"c", 0xe60c2c52, 2, 0, 1}, {"c", 0xe60c2c52, 4, 2, 3}, {"c", 0xe60c2c52, 128, 0x52, 3}, {"c", 0xe60c2c52, 65536, 0x2c52, 3},
		{"d", 0xe10c2473, 2, 1, 2}, {"d", 0xe10c2473, 8, 3, 4}, {"d", 0xe10c2473, 512, 0x73, 4}, {"d", 0xe10c2473, 65536, 0x2473, 4},
		{"foobar", 0xbf9cf968, 2, 0, 1}, {"foobar", 0xbf9cf968, 16, 8, 1}, {"foobar", 0xbf9cf968, 65536, 0xf968, 1},
	}
}

// NewNode is a node of a key, by its sum.
func NewNode(key, val string) arena.Node {
	return arena.Node{Key: key, Val: val, Sum: fnv.Sum(key)}
}

// Others are so many nodes of other keys, all of the bucket of n in which a key is.
func Others(key string, n, count int) []arena.Node {
	var l []arena.Node
	for i := 0; len(l) < count; i++ {
		other := "o" + strconv.Itoa(i)
		if BucketOf(other, n) == BucketOf(key, n) {
			l = append(l, NewNode(other, "v"+other))
		}
	}
	return l
}

// Keys are keys of all kinds, the empty one among them, and such that are nearly the same.
func Keys() []string {
	return []string{
		"", "\x00", "\x00\x00", " ", "k", "K", "kk", "k ", " k", "k\x00", "key", "0", "00", "\xc3\xa4", "a\xcc\x88", "\xff", "\xff\xfe",
		strings.Repeat("k", 31), strings.Repeat("k", 32), strings.Repeat("k", 33), strings.Repeat("k", 31) + "l", strings.Repeat("k", 1000),
	}
}

// KeyOf is the key of a node that is live.
func KeyOf(m *mem.Mem, h arena.Handle) string {
	node, _ := m.Arena.Read(h)
	return node.Key
}

// ValOf is the value that a key has now, and whether it is there.
func ValOf(m *mem.Mem, key string) (string, bool) {
	for _, h := range m.Chain(BucketOf(key, m.Now().N)) {
		if node, _ := m.Arena.Read(h); node.Key == key {
			return node.Val, true
		}
	}
	return "", false
}

// KeyIn is a key of a bucket of n.
func KeyIn(bucket, n int) string {
	for i := 0; ; i++ {
		if key := "b" + strconv.Itoa(i); BucketOf(key, n) == bucket {
			return key
		}
	}
}

// Busy is a memory of which a table of n buckets counts, with a period of its own, one that waits, and both locks held that aren't writers', so that it is to be seen if they are touched, and that no writer waits for them. All workers but the first are in.
func Busy(t T, room, workers, n int) *mem.Mem {
	t.Helper()
	m, e := mem.New(room, workers)
	if m == nil || e != api.OK {
		t.Fatalf("mem.New(%d, %d) = %v, %v", room, workers, m, e)
	}
	Count(m, NewTable(t, m, n))
	m.Cells.Store(periodCell, 7)
	for worker := 1; worker < workers; worker++ {
		m.Cells.Store(firstCounter+worker, 3)
	}
	m.Retire(far)
	m.Locks.Try(periodLock, somebody)
	m.Locks.Try(resizeLock, somebody)
	return m
}

// BusyTables is such a memory of tables of these numbers of buckets, from table 1 on, of which the last one counts, and which have the node, each a copy of its own; the number of a table is the place of its node.
func BusyTables(t T, n arena.Node, sizes ...int) *mem.Mem {
	t.Helper()
	m := Busy(t, 2*len(sizes)+2, 2, sizes[0])
	for _, size := range sizes[1:] {
		Count(m, NewTable(t, m, size))
	}
	for number := range len(sizes) + 1 {
		desc, _ := m.Desc(number)
		Lay(t, m, CellIn(desc, n.Key), n)
	}
	return m
}

// Fill has no place be free, by nodes that are in no chain.
func Fill(t T, m *mem.Mem) {
	t.Helper()
	for m.Arena.Spare() > 0 {
		Alloc(t, m, arena.Node{Key: "filler"})
	}
}
