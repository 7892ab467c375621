package trial

import (
	"slices"
	"testing"

	"quietus/arena"
)

// Keys of a bucket are each another one, and of that bucket; spread, each stands in its own bucket, in the order in which it stood.
func TestSpread(t *testing.T) {
	// Of four buckets a is of 0, b of 1, c of 2, and d of 3.
	keys := [][]string{{"d", "a"}, {"c", "b"}}
	for n, want := range map[int][][]string{
		1: {{"d", "a", "c", "b"}},
		2: {{"a", "c"}, {"d", "b"}},
		4: {{"a"}, {"b"}, {"c"}, {"d"}},
	} {
		is := Spread(keys, n)
		if !slices.EqualFunc(is, want, slices.Equal) {
			t.Errorf("Spread to %d = %q", n, is)
		}
	}
	for _, n := range []int{1, 2, 64} {
		l := KeysOf(n-1, n, 5)
		if is := Spread([][]string{l}, n); !slices.Equal(is[n-1], l) || len(slices.Compact(slices.Sorted(slices.Values(l)))) != 5 {
			t.Errorf("of the bucket %d: %q", n-1, l)
		}
	}
}

// Keys by turns are of their own buckets, from none up to as many as there may be.
func TestKeysByTurns(t *testing.T) {
	for n, lengths := range map[int][]int{1: {0}, 2: {0, 3}, 8: {0, 3, 2, 1, 0, 3, 2, 1}} {
		is := KeysByTurns(n, 3)
		if !slices.EqualFunc(Spread(is, n), is, slices.Equal) || len(is) != n {
			t.Errorf("of %d buckets: %q", n, is)
		}
		for bucket, l := range is {
			if len(l) != lengths[bucket] {
				t.Errorf("of %d buckets, of the bucket %d: %q", n, bucket, l)
			}
		}
	}
}

// Powers are each twice the one ahead of it, from 1 to 65536.
func TestPowers(t *testing.T) {
	l := Powers()
	for i, n := range l {
		if n != 1<<i {
			t.Errorf("the power %d is %d", i, n)
		}
	}
	if len(l) != 17 {
		t.Errorf("the powers are %v", l)
	}
}

// A free table is as one that is held, but for the locks.
func TestFreeTable(t *testing.T) {
	keys := Spread([][]string{{"a", "b", "c", "d"}}, 2)
	m := FreeTable(t, 3, keys)
	CheckTable(t, m, keys)
	held := HeldTable(t, 3, 1, keys)
	FreeAll(held, 1)
	Look(held).Check(t, m, "a free table")
	if l := Look(m).Holders; slices.ContainsFunc(l, func(holder int) bool { return holder != -1 }) {
		t.Errorf("the holders are %v", l)
	}
}

// Somebody holds those of the locks that were free whose bits are set, and frees just these.
func TestHoldSome(t *testing.T) {
	m := FreeTable(t, 2, [][]string{nil})
	m.Locks.Try(2, 1)
	HoldSome(m, 0b100110)
	if l := Look(m).Holders; !slices.Equal(l, []int{-1, somebody, 1, -1, -1, somebody}) {
		t.Errorf("held, the holders are %v", l)
	}
	FreeSome(m)
	if l := Look(m).Holders; !slices.Equal(l, []int{-1, -1, 1, -1, -1, -1}) {
		t.Errorf("freed, the holders are %v", l)
	}
}

// Each table is of one bucket or many, with keys or without, and full or not; a full one is as another one, but that no place is free.
func TestEachTable(t *testing.T) {
	met := map[[2]int]int{}
	EachTable(func(keys [][]string, full bool) {
		m := TableOf(t, 2, keys, full)
		CheckTable(t, m, keys)
		if (m.Arena.Spare() == 0) != full {
			t.Errorf("full: %v; %d are free", full, m.Arena.Spare())
		}
		met[[2]int{len(keys), len(slices.Concat(keys...))}]++
	})
	if len(met) < 6 || met[[2]int{1, 0}] < 2 || met[[2]int{8, 0}] != 2 {
		t.Errorf("these were met: %v", met)
	}
}

// A table that is laid is what it has to be; of each other one it is told.
func TestCheckTable(t *testing.T) {
	keys := Spread([][]string{{"a", "b", "c", "d"}}, 2)
	m := HeldTable(t, 3, 2, keys)
	s := Look(m)
	if len(m.Reach()) != 4 || m.Workers() != 3 || s.Words[periodCell] != 7 || len(s.Waiting) != 1 || s.Free == 0 ||
		!slices.Equal(s.Holders, []int{-1, 2, 2, 2, 2, 2}) || s.Live()[0] != 1+far {
		t.Fatalf("it is %v", s)
	}
	CheckTable(t, m, keys)
	FreeAll(m, 2)
	if l := m.Locks.Held(2); len(l) != 0 {
		t.Errorf("these are held: %v", l)
	}
	for i, wrong := range [][][]string{{keys[0], keys[1], nil}, {keys[1], keys[0]}, {keys[0], keys[1][:1]}, {keys[0], {keys[1][1], keys[1][0]}}} {
		if !Told(func(t T) { CheckTable(t, m, wrong) }) {
			t.Errorf("of the wrong table %d nothing is told", i)
		}
	}
	for i, wrong := range []arena.Node{NewNode("a", "w"), {Key: "a", Val: OwnVal("a"), Sum: 2}} {
		m := HeldTable(t, 1, 0, [][]string{{"a"}})
		CheckTable(t, m, [][]string{{"a"}})
		Put(t, m, m.Now().Base, Alloc(t, m, wrong))
		if !Told(func(t T) { CheckTable(t, m, [][]string{{"a"}}) }) {
			t.Errorf("of the wrong node %d nothing is told", i)
		}
	}
	m.Arena.Read(0)
	if !Told(func(t T) { CheckTable(t, m, keys) }) {
		t.Error("of the flag nothing is told")
	}
	if !Told(func(t T) { HeldTable(t, 9, 0, keys) }) {
		t.Error("of too many workers nothing is told")
	}
}
