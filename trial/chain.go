package trial

import (
	"slices"

	"quietus/api"
	"quietus/arena"
	"quietus/mem"
)

// Alloc is the handle of a new node.
func Alloc(t T, m *mem.Mem, n arena.Node) arena.Handle {
	t.Helper()
	h, e := m.Arena.Alloc(n)
	if e != api.OK {
		t.Fatalf("Alloc = %d, %v", h, e)
	}
	return h
}

// Free frees a node that is live.
func Free(t T, m *mem.Mem, h arena.Handle) {
	t.Helper()
	if e := m.Arena.Free(h); e != api.OK {
		t.Fatalf("Free(%d) = %v", h, e)
	}
}

// Link sets the Next of a node that is live.
func Link(t T, m *mem.Mem, h, next arena.Handle) {
	t.Helper()
	if e := m.Arena.Link(h, next); e != api.OK {
		t.Fatalf("Link(%d, %d) = %v", h, next, e)
	}
}

// Put has a cell's chain begin by a handle.
func Put(t T, m *mem.Mem, cell int, h arena.Handle) {
	t.Helper()
	if e := m.Cells.Store(cell, uint64(h)); e != api.OK {
		t.Fatalf("Store(%d, %d) = %v", cell, h, e)
	}
}

// Join has what stands at a place of a chain come next: ahead of all it is what the cell has.
func Join(t T, m *mem.Mem, cell int, l []arena.Handle, place int, h arena.Handle) {
	t.Helper()
	if place == 0 {
		Put(t, m, cell, h)
		return
	}
	Link(t, m, l[place-1], h)
}

// Lay lays a chain of such nodes, in order, from a cell on, and says their handles.
func Lay(t T, m *mem.Mem, cell int, nodes ...arena.Node) []arena.Handle {
	t.Helper()
	var l []arena.Handle
	for i, n := range nodes {
		h := Alloc(t, m, n)
		Join(t, m, cell, l, i, h)
		l = append(l, h)
	}
	return l
}

// ChainOf are so many nodes of the bucket of n in which a node's key is, with that node at a place; without it, if that is below 0.
func ChainOf(n int, node arena.Node, length, place int) []arena.Node {
	l := Others(node.Key, n, length)
	if place >= 0 {
		l[place] = node
	}
	return l
}

// EachChain does something of each length of a chain, of none, one and many nodes, and each place in it, and, at -1, none.
func EachChain(do func(length, place int)) {
	for length := range 7 {
		for place := -1; place < length; place++ {
			do(length, place)
		}
	}
}

// At is what stands at a place of a chain; 0, if that is beyond its ends.
func At(l []arena.Handle, place int) arena.Handle {
	if place < 0 || place >= len(l) {
		return 0
	}
	return l[place]
}

// CheckChain says whether the chain of a key's bucket is this one.
func CheckChain(t T, m *mem.Mem, key string, want []arena.Handle, what string) {
	t.Helper()
	if is := m.Chain(BucketOf(key, m.Now().N)); !slices.Equal(is, want) {
		t.Fatalf("%s: the chain is %v, not %v", what, is, want)
	}
}

// Chain are the handles of a cell's chain, up to the first one that is 0, not live, or was met already.
func (s Seen) Chain(cell int) []arena.Handle { return s.ChainFrom(arena.Handle(s.Words[cell])) }

// ChainFrom are the same, from a handle on.
func (s Seen) ChainFrom(h arena.Handle) []arena.Handle {
	var l []arena.Handle
	for node, live := s.Node(h); live && !slices.Contains(l, h); node, live = s.Node(h) {
		l = append(l, h)
		h = node.Next
	}
	return l
}

// BucketOf is the bucket of n in which a handle's node is, that is live.
func (s Seen) BucketOf(h arena.Handle, n int) int {
	node, _ := s.Node(h)
	return int(node.Sum % uint32(n))
}

// Own are those of a row of handles whose nodes are of a bucket of n.
func (s Seen) Own(l []arena.Handle, bucket, n int) []arena.Handle {
	return slices.DeleteFunc(slices.Clone(l), func(h arena.Handle) bool { return s.BucketOf(h, n) != bucket })
}
