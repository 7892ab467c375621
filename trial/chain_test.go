package trial

import (
	"slices"
	"testing"

	"quietus/arena"
)

// A chain that is laid has its nodes in order, each with the next one's handle, and the last one with none.
func TestLay(t *testing.T) {
	m, h := newMem(t)
	Free(t, m, h)
	before := Look(m)
	l := Lay(t, m, m.Now().Base, arena.Node{Key: "a", Val: "x", Sum: 1}, arena.Node{Key: "b", Sum: 2})
	if !slices.Equal(m.Chain(0), l) || len(l) != 2 {
		t.Fatalf("of %v the chain is %v", l, m.Chain(0))
	}
	want := []arena.Node{{Key: "a", Val: "x", Sum: 1, Next: l[1]}, {Key: "b", Sum: 2}}
	for i, h := range l {
		if n, _ := m.Arena.Read(h); n != want[i] {
			t.Errorf("the node %d is %v", i, n)
		}
	}
	Join(t, m, m.Now().Base, l, 1, 0)
	if !slices.Equal(m.Chain(0), l[:1]) {
		t.Errorf("cut behind the first one the chain is %v", m.Chain(0))
	}
	Free(t, m, l[1])
	Join(t, m, m.Now().Base, l, 0, 0)
	Free(t, m, l[0])
	before.Check(t, m, "all freed")
}

// Of what an arena, or the cells, don't take it is told.
func TestChainFaults(t *testing.T) {
	m, h := newMem(t)
	Alloc(t, m, arena.Node{})
	faults := []func(t T){
		func(t T) { Alloc(t, m, arena.Node{}) },
		func(t T) { Lay(t, m, m.Now().Base, arena.Node{}) },
		func(t T) { Free(t, m, h+far) },
		func(t T) { Link(t, m, 0, h) },
		func(t T) { Put(t, m, m.Cells.Len(), h) },
		func(t T) { Join(t, m, m.Cells.Len(), nil, 0, h) },
		func(t T) { Join(t, m, m.Now().Base, []arena.Handle{9}, 1, h) },
	}
	for i, fault := range faults {
		if !Told(fault) {
			t.Errorf("of fault %d nothing is told", i)
		}
	}
}

// A chain of a bucket has the node at its place, or not at all, and others of that bucket.
func TestChainOf(t *testing.T) {
	node, count := NewNode("k", "v"), 0
	EachChain(func(length, place int) {
		count++
		l := ChainOf(8, node, length, place)
		if len(l) != length || slices.Index(l, node) != place {
			t.Fatalf("of %d nodes, at %d: %v", length, place, l)
		}
		for i, o := range l {
			if BucketOf(o.Key, 8) != BucketOf("k", 8) || i != place && o.Key == "k" {
				t.Fatalf("of %d nodes, at %d: %v", length, place, l)
			}
		}
	})
	if count != 7+21 {
		t.Errorf("there are %d chains", count)
	}
}

// At says what stands at a place, and nothing beyond a chain's ends; CheckChain tells of another chain than that.
func TestCheckChain(t *testing.T) {
	m, h := newMem(t)
	l := []arena.Handle{4, 5}
	for place, want := range map[int]arena.Handle{-1: 0, 0: 4, 1: 5, 2: 0} {
		if is := At(l, place); is != want {
			t.Errorf("At(%d) = %d", place, is)
		}
	}
	Count(m, NewTable(t, m, 8))
	Put(t, m, CellOf(m, "k"), h)
	CheckChain(t, m, "k", []arena.Handle{h}, "one node")
	for _, wrong := range [][]arena.Handle{nil, {2}, {h, 2}} {
		if !Told(func(t T) { CheckChain(t, m, "k", wrong, "another chain") }) {
			t.Errorf("of %v nothing is told", wrong)
		}
	}
}

// What is seen of a chain is what the memory says of it, with handles that are stale, and an end that comes back, too.
func TestSeenChain(t *testing.T) {
	m := HeldTable(t, 1, 0, [][]string{{"a", "b", "c", "d"}})
	l := m.Chain(0)
	for _, end := range []arena.Handle{0, l[1], l[3], l[0] + far, 9} {
		Link(t, m, l[3], end)
		if s := Look(m); !slices.Equal(s.Chain(m.Now().Base), l) || !slices.Equal(s.ChainFrom(l[2])[:2], l[2:]) {
			t.Errorf("with the end %d the chain is %v, of %v", end, s.Chain(m.Now().Base), l)
		}
	}
	Put(t, m, m.Now().Base, l[0]+far)
	s := Look(m)
	if is := s.Chain(m.Now().Base); len(is) != 0 {
		t.Errorf("of a stale handle the chain is %v", is)
	}
	for i, want := range []int{0, 1, 2, 3} {
		if is := s.BucketOf(l[i], 4); is != want {
			t.Errorf("the bucket of %d is %d", i, is)
		}
		if is := s.Own(l, i, 4); !slices.Equal(is, l[i:i+1]) {
			t.Errorf("of the bucket %d are %v", i, is)
		}
	}
	if is := s.Own(l, 1, 2); !slices.Equal(is, []arena.Handle{l[1], l[3]}) {
		t.Errorf("of the bucket 1 of 2 are %v", is)
	}
}
