package trial

import (
	"slices"
	"testing"

	"quietus/arena"
	"quietus/mem"
)

// A table that is made, and counts, is the one whose cells, and locks, are told.
func TestBuckets(t *testing.T) {
	m, _ := newMem(t)
	Count(m, NewTable(t, m, 8))
	now := m.Now()
	if now.N != 8 || now != (mem.Desc{N: 8, Base: 5}) {
		t.Fatalf("the table that counts is %v", now)
	}
	// The sum of a is e40c292c, that of b e70c2de5.
	for _, c := range []struct {
		key       string
		n, bucket int
		sum       uint32
		lock      int
	}{{"a", 8, 4, 0xe40c292c, 1}, {"b", 8, 5, 0xe70c2de5, 2}, {"b", 1, 0, 0xe70c2de5, 1}, {"b", 2, 1, 0xe70c2de5, 2}, {"a", 1 << 16, 0x292c, 0xe40c292c, 1}} {
		if is := BucketOf(c.key, c.n); is != c.bucket {
			t.Errorf("BucketOf(%q, %d) = %d", c.key, c.n, is)
		}
		if is := LockOf(c.sum, c.n); is != c.lock {
			t.Errorf("LockOf(%d, %d) = %d", c.sum, c.n, is)
		}
		if is := CellIn(mem.Desc{N: c.n, Base: 7}, c.key); is != 7+c.bucket {
			t.Errorf("CellIn(%d, %q) = %d", c.n, c.key, is)
		}
		if is := NewNode(c.key, "v"); is != (arena.Node{Key: c.key, Val: "v", Sum: c.sum}) {
			t.Errorf("NewNode(%q) = %v", c.key, is)
		}
	}
	if is := CellOf(m, "a"); is != 9 {
		t.Errorf("CellOf = %d", is)
	}
	if !Told(func(t T) { NewTable(t, m, 3) }) {
		t.Error("of three buckets nothing is told")
	}
}

// Of keys that are in a chain, whichever bucket's, it is told what they have now, the first one of two; of others that they aren't there.
func TestValOf(t *testing.T) {
	m, h := newMem(t)
	if KeyOf(m, h) != "k" {
		t.Errorf("KeyOf = %q", KeyOf(m, h))
	}
	Count(m, NewTable(t, m, 4))
	Put(t, m, CellOf(m, "k"), h)
	Link(t, m, h, Alloc(t, m, NewNode("k", "second")))
	if val, had := ValOf(m, "k"); val != "v" || !had {
		t.Errorf("ValOf = %q, %v", val, had)
	}
	Put(t, m, CellOf(m, "k"), 0)
	if val, had := ValOf(m, "k"); val != "" || had {
		t.Errorf("not there, ValOf = %q, %v", val, had)
	}
}

// Others are of the key's bucket, each another one, and none the key; keys are each another one.
func TestOthers(t *testing.T) {
	for _, n := range []int{1, 2, 64} {
		met := map[string]bool{"a": true}
		for _, node := range Others("a", n, 9) {
			if met[node.Key] || BucketOf(node.Key, n) != BucketOf("a", n) || node != NewNode(node.Key, "v"+node.Key) {
				t.Errorf("of %d buckets: %v", n, node)
			}
			met[node.Key] = true
		}
		if len(met) != 10 {
			t.Errorf("of %d buckets these were met: %v", n, met)
		}
	}
	if l := Keys(); len(slices.Compact(slices.Sorted(slices.Values(l)))) != len(l) || !slices.Contains(l, "") {
		t.Errorf("Keys = %q", l)
	}
}

// Wrong numbers are no table's, the least of them, and the greatest, among them.
func TestWrongNumbers(t *testing.T) {
	for _, tables := range []uint64{1, 2, 3} {
		l := WrongNumbers(tables)
		if slices.Min(l) != tables || slices.Max(l) != 1<<64-1 || !slices.Contains(l, 1<<32) {
			t.Errorf("of %d tables: %v", tables, l)
		}
	}
}

// Homes are where keys are told to be, of all locks.
func TestHomes(t *testing.T) {
	met := map[int]bool{}
	for _, c := range Homes() {
		if NewNode(c.Key, "").Sum != c.Sum || BucketOf(c.Key, c.N) != c.Bucket || LockOf(c.Sum, c.N) != c.Lock {
			t.Errorf("of %v: %v, %d, %d", c, NewNode(c.Key, ""), BucketOf(c.Key, c.N), LockOf(c.Sum, c.N))
		}
		met[c.Lock] = true
	}
	if len(met) != writers {
		t.Errorf("the locks are %v", met)
	}
}

// A key of a bucket is in that one.
func TestKeyIn(t *testing.T) {
	for _, n := range []int{1, 2, 64} {
		for bucket := range n {
			if key := KeyIn(bucket, n); BucketOf(key, n) != bucket {
				t.Errorf("KeyIn(%d, %d) = %q", bucket, n, key)
			}
		}
	}
}

// A busy memory has the table that it has to, and all that nobody may touch; filled, no place is free.
func TestBusy(t *testing.T) {
	m := Busy(t, 3, 3, 8)
	s := Look(m)
	if m.Now().N != 8 || m.Workers() != 3 || m.Arena.Room() != 3 || s.Words[periodCell] != 7 || !slices.Equal(In(m), []int{1, 2}) ||
		!slices.Equal(s.Waiting, []arena.Handle{far}) || !slices.Equal(s.Holders, []int{somebody, -1, -1, -1, -1, somebody}) {
		t.Fatalf("it is %v", s)
	}
	Fill(t, m)
	if m.Arena.Spare() != 0 || len(m.Reach()) != 0 {
		t.Fatalf("filled it is %v", Look(m))
	}
	if !Told(func(t T) { Busy(t, 3, 9, 8) }) || !Told(func(t T) { Busy(t, 0, 1, 8) }) {
		t.Error("of too many workers, or no room, nothing is told")
	}
}

// Each table of such a memory has the node, each a copy of its own.
func TestBusyTables(t *testing.T) {
	m := BusyTables(t, NewNode("k", "v"), 8, 1, 4)
	for number, n := range []int{1, 8, 1, 4} {
		Count(m, number)
		if val, had := ValOf(m, "k"); val != "v" || !had || m.Now().N != n || !slices.Equal(m.Reach(), []arena.Handle{arena.Handle(number + 1)}) {
			t.Errorf("the table %d, of %v, reaches %v", number, m.Now(), m.Reach())
		}
	}
}
