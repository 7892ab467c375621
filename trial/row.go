package trial

import (
	"strconv"

	"quietus/arena"
	"quietus/mem"
)

// mostCells is how many cells a row has when no more tables are made.
const mostCells = 40

// rowKeys are so few that there are nodes of the same ones.
func rowKeys() []string { return []string{"", "k", "l", "kk", "m"} }

// Row is a memory in which others do whatever they may, by the picks of Next, beside frames of its workers that are on their way.
type Row struct {
	T    T
	M    *mem.Mem
	Next func(n int) int
	// made are the handles that were answered, which may be stale.
	made []arena.Handle
}

// NewRow is a row of so many workers.
func NewRow(t T, workers int, seed uint32) *Row {
	t.Helper()
	m, _ := mem.New(12, workers)
	return &Row{T: t, M: m, Next: Picker(seed*mostWorkers + uint32(workers))}
}

// Key is one of few keys.
func (r *Row) Key() string { return rowKeys()[r.Next(len(rowKeys()))] }

// word is a word of any kind.
func (r *Row) word() uint64 { return Words()[r.Next(len(Words()))] }

// handle is that of a node that is live, if there is one, or one that was answered, or none, or any word.
func (r *Row) handle() arena.Handle {
	switch i := r.Next(60); {
	case i < 6:
		return 0
	case i == 6:
		return arena.Handle(r.word())
	case i == 7 && len(r.made) > 0:
		return r.made[r.Next(len(r.made))]
	}
	live := Look(r.M).Live()
	if len(live) == 0 {
		return 0
	}
	return live[r.Next(len(live))]
}

// Disturb does something that others may do.
func (r *Row) Disturb() {
	lock := r.Next(r.M.Locks.Len())
	switch i := r.Next(42); {
	case i < 24:
		r.disturbNodes()
	case i < 26:
		r.M.Cells.Store(periodCell, r.word())
	case i < 27:
		r.M.Cells.Store(currentCell, r.word())
	case i < 31:
		Count(r.M, r.Next(len(Look(r.M).Tables)))
	case i < 32 && r.M.Cells.Len() < mostCells:
		NewTable(r.T, r.M, 1<<r.Next(4))
	case i < 33:
		r.M.Take()
	case i < 36:
		r.M.Locks.Try(lock, somebody)
	default:
		r.M.Locks.Free(lock, somebody)
	}
}

// disturbNodes changes nodes, and chains, in whatever way.
func (r *Row) disturbNodes() {
	h := r.handle()
	live := r.M.Arena.Live(h)
	switch i := r.Next(40); {
	case i < 8:
		r.alloc(h)
	case i < 18:
		first := firstCounter + r.M.Workers()
		Put(r.T, r.M, first+r.Next(r.M.Cells.Len()-first), h)
	case i < 33 && live:
		Link(r.T, r.M, h, r.handle())
	case live:
		Free(r.T, r.M, h)
	}
}

// alloc takes a node, if a place is free, which goes on with a handle, and whose sum, now and then, isn't its key's.
func (r *Row) alloc(next arena.Handle) {
	node := NewNode(r.Key(), strconv.Itoa(len(r.made)))
	node.Next = next
	if r.Next(9) == 0 {
		node.Sum++
	}
	if h, _ := r.M.Arena.Alloc(node); h != 0 {
		r.made = append(r.made, h)
	}
}
