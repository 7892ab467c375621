// Package seek is what those begin by who change what a key has: the key's bucket is held, and a walk goes to the key. It is no layer of its own: layers that change chains have it in common.
package seek

import (
	"quietus/arena"
	"quietus/fnv"
	"quietus/mem"
	"quietus/table"
	"quietus/walk"
)

// noCell is a cell that no memory has: of a walk from there nothing comes.
const noCell = -1

// Seek goes to a key, by the lock of its bucket, which it holds till it is dropped.
type Seek struct {
	sum uint32
	key string
	// ready and next are of the step that comes next: whether it can be taken, and the step itself, which says whether the key is come to by it.
	ready, next func(*mem.Mem) bool
	hold        *table.Hold
	// cell is the bucket's, once that is held; it is none till then, and if there is no table.
	cell int
	walk *walk.Walk
}

// New goes to a key, of that sum.
func New(worker int, sum uint32, key string) *Seek {
	s := &Seek{sum: sum, key: key, hold: table.New(worker, sum)}
	s.walkFrom(noCell)
	s.ready, s.next = s.hold.Ready, s.holdBucket
	return s
}

// walkFrom has the walk to the key be from a cell.
func (s *Seek) walkFrom(cell int) { s.cell, s.walk = cell, walk.New(cell, s.sum, s.key) }

// holdBucket takes a step of holding the bucket: behind its last one nobody else changes the chain till the bucket is dropped, so that what the walk tells holds till then.
func (s *Seek) holdBucket(m *mem.Mem) bool {
	if s.hold.Step(m) {
		s.walkFrom(s.cellIn(s.hold.Desc()))
		s.ready, s.next = s.walk.Ready, s.walk.Step
	}
	return false
}

// cellIn is the cell of the key's bucket; none, if there is no table: of the zero one it would be the period's cell, whose word is no handle.
func (s *Seek) cellIn(desc mem.Desc) int {
	if desc.N == 0 {
		return noCell
	}
	return desc.Base + fnv.Bucket(s.sum, desc.N)
}

// Ready says whether it can take its step.
func (s *Seek) Ready(m *mem.Mem) bool { return s.ready(m) }

// Step takes its step.
func (s *Seek) Step(m *mem.Mem) bool { return s.next(m) }

// Bucket says whether there is a bucket that is held: of a number that no table has there is none, though a lock is.
func (s *Seek) Bucket() bool { return s.cell != noCell }

// Found is what was found.
func (s *Seek) Found() (arena.Handle, arena.Node, bool) { return s.walk.Found() }

// First is what the bucket's cell had.
func (s *Seek) First() arena.Handle { return s.walk.First() }

// Lead has the chain go on with a handle from where what was found stands, or, if nothing was, from its cell on. It is one step.
func (s *Seek) Lead(m *mem.Mem, h arena.Handle) {
	_, _, found := s.walk.Found()
	if ahead := s.walk.Prev(); found && ahead != 0 {
		m.Arena.Link(ahead, h)
		return
	}
	m.Cells.Store(s.cell, uint64(h))
}

// Drop drops the bucket. It is one step.
func (s *Seek) Drop(m *mem.Mem) { s.hold.Drop(m) }
