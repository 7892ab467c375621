package trial

import (
	"slices"
	"testing"

	"quietus/arena"
)

// A chain that is laid has its nodes in order, each with the next one's handle, and the last one with none.
func TestLay(t *testing.T) {
	m, h := newMem(t)
	Free(t, m, h)
	before := Look(m)
	l := Lay(t, m, m.Now().Base, arena.Node{Key: "a", Val: "x", Sum: 1}, arena.Node{Key: "b", Sum: 2})
	if !slices.Equal(m.Chain(0), l) || len(l) != 2 {
		t.Fatalf("of %v the chain is %v", l, m.Chain(0))
	}
	want := []arena.Node{{Key: "a", Val: "x", Sum: 1, Next: l[1]}, {Key: "b", Sum: 2}}
	for i, h := range l {
		if n, _ := m.Arena.Read(h); n != want[i] {
			t.Errorf("the node %d is %v", i, n)
		}
	}
	Join(t, m, m.Now().Base, l, 1, 0)
	if !slices.Equal(m.Chain(0), l[:1]) {
		t.Errorf("cut behind the first one the chain is %v", m.Chain(0))
	}
	Free(t, m, l[1])
	Join(t, m, m.Now().Base, l, 0, 0)
	Free(t, m, l[0])
	before.Check(t, m, "all freed")
}

// Of what an arena, or the cells, don't take it is told.
func TestChainFaults(t *testing.T) {
	m, h := newMem(t)
	Alloc(t, m, arena.Node{})
	faults := []func(t T){
		func(t T) { Alloc(t, m, arena.Node{}) },
		func(t T) { Lay(t, m, m.Now().Base, arena.Node{}) },
		func(t T) { Free(t, m, h+far) },
		func(t T) { Link(t, m, 0, h) },
		func(t T) { Put(t, m, m.Cells.Len(), h) },
		func(t T) { Join(t, m, m.Cells.Len(), nil, 0, h) },
		func(t T) { Join(t, m, m.Now().Base, []arena.Handle{9}, 1, h) },
	}
	for i, fault := range faults {
		if !told(fault) {
			t.Errorf("of fault %d nothing is told", i)
		}
	}
}
