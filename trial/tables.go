package trial

import (
	"slices"
	"strconv"

	"quietus/api"
	"quietus/arena"
	"quietus/fnv"
	"quietus/mem"
)

// mostRoom is how many nodes an arena can have.
const mostRoom = 1024

// OwnVal is the value that a key has in tables that are laid.
func OwnVal(key string) string { return "v" + key }

// KeysOf are so many keys of a bucket of n.
func KeysOf(bucket, n, count int) []string {
	var l []string
	for i := 0; len(l) < count; i++ {
		if key := "k" + strconv.Itoa(i); BucketOf(key, n) == bucket {
			l = append(l, key)
		}
	}
	return l
}

// KeysByTurns are keys of n buckets: of each as many as it is its turn to have, from none up to so many.
func KeysByTurns(n, length int) [][]string {
	keys := make([][]string, n)
	for bucket := range n {
		keys[bucket] = KeysOf(bucket, n, bucket*3%(length+1))
	}
	return keys
}

// Powers are all numbers of buckets that may be, written out, so that tests don't reckon them as layer 1 does.
func Powers() []int {
	return []int{1, 2, 4, 8, 16, 32, 64, 128, 256, 512, 1024, 2048, 4096, 8192, 16384, 32768, 65536}
}

// Spread is such keys, bucket by bucket, in n buckets: each has its own ones, in the order in which they stood.
func Spread(keys [][]string, n int) [][]string {
	l := make([][]string, n)
	for _, key := range slices.Concat(keys...) {
		bucket := BucketOf(key, n)
		l[bucket] = append(l[bucket], key)
	}
	return l
}

// LayTable has a table come to count whose buckets have these keys, in order, each with its own value.
func LayTable(t T, m *mem.Mem, keys [][]string) {
	t.Helper()
	Count(m, NewTable(t, m, len(keys)))
	for bucket, own := range keys {
		var nodes []arena.Node
		for _, key := range own {
			nodes = append(nodes, NewNode(key, OwnVal(key)))
		}
		Lay(t, m, m.Now().Base+bucket, nodes...)
	}
}

// HoldAll has a worker hold the locks that one has to hold who has another table count.
func HoldAll(m *mem.Mem, worker int) {
	for lock := firstWriter; lock <= resizeLock; lock++ {
		m.Locks.Try(lock, worker)
	}
}

// FreeAll has it free them.
func FreeAll(m *mem.Mem, worker int) {
	for lock := firstWriter; lock <= resizeLock; lock++ {
		m.Locks.Free(lock, worker)
	}
}

// HoldSome has somebody hold those of the locks that are free whose bits are set.
func HoldSome(m *mem.Mem, bits int) {
	for lock := range m.Locks.Len() {
		if bits>>lock&1 == 1 {
			m.Locks.Try(lock, somebody)
		}
	}
}

// FreeSome has somebody free all locks that it has.
func FreeSome(m *mem.Mem) {
	for lock := range m.Locks.Len() {
		m.Locks.Free(lock, somebody)
	}
}

// HeldTable is a memory of such a table, with a period of its own, a node that waits, places that are free, and one that was freed, all of whose locks, but the period's, a worker holds.
func HeldTable(t T, workers, worker int, keys [][]string) *mem.Mem {
	t.Helper()
	m, e := mem.New(min(len(slices.Concat(keys...))+12, mostRoom), workers)
	if m == nil || e != api.OK {
		t.Fatalf("mem.New of %d workers: %v", workers, e)
	}
	Free(t, m, Alloc(t, m, arena.Node{}))
	m.Cells.Store(periodCell, 7)
	m.Retire(Alloc(t, m, arena.Node{Key: "waits"}))
	HoldAll(m, worker)
	LayTable(t, m, keys)
	return m
}

// FreeTable is such a memory all of whose locks are free.
func FreeTable(t T, workers int, keys [][]string) *mem.Mem {
	t.Helper()
	m := HeldTable(t, workers, somebody, keys)
	FreeAll(m, somebody)
	return m
}

// TableOf is such a memory; in a full one no place is free.
func TableOf(t T, workers int, keys [][]string, full bool) *mem.Mem {
	t.Helper()
	m := FreeTable(t, workers, keys)
	if full {
		Fill(t, m)
	}
	return m
}

// CheckTable says whether what counts has these keys, bucket by bucket, in order, each with its own value, and its sum, and no handle that was stale was used.
func CheckTable(t T, m *mem.Mem, keys [][]string) {
	t.Helper()
	if m.Now().N != len(keys) || m.Arena.Fault() {
		t.Fatalf("the table is %v, the flag is up: %v", m.Now(), m.Arena.Fault())
	}
	for bucket, own := range keys {
		l := m.Chain(bucket)
		if len(l) != len(own) {
			t.Fatalf("of %d buckets, the chain %d has %d nodes, not %d", len(keys), bucket, len(l), len(own))
		}
		for i, h := range l {
			node, _ := m.Arena.Read(h)
			if key := own[i]; node.Key != key || node.Val != OwnVal(key) || node.Sum != fnv.Sum(key) {
				t.Fatalf("of %d buckets, the node %d of the chain %d is %v, not of %q", len(keys), i, bucket, node, key)
			}
		}
	}
}

// EachTable does something for each of some tables' keys, with places that are free, and without.
func EachTable(do func(keys [][]string, full bool)) {
	for _, n := range []int{1, 2, 8} {
		for _, length := range []int{0, 1, 4} {
			do(KeysByTurns(n, length), false)
			do(KeysByTurns(n, length), true)
		}
	}
}
