package seek

import (
	"testing"

	"quietus/arena"
	"quietus/fnv"
	"quietus/mem"
	"quietus/trial"
)

const (
	// key is the key that is gone to.
	key = "k"
	// begun is how many steps there are ahead of the first node: three of holding the bucket, one that loads its cell.
	begun = 4
)

// A seek is a frame.
var _ mem.Frame = (*Seek)(nil)

// yes is the node of the key.
func yes() arena.Node { return trial.NewNode(key, "v") }

// newSeek is a seek of the key.
func newSeek(worker int) *Seek { return New(worker, fnv.Sum(key), key) }

// checkFound says whether a seek tells that this was found, or nothing, if it is 0, and that the cell had this.
func checkFound(t *testing.T, m *mem.Mem, s *Seek, first, found arena.Handle, what string) {
	t.Helper()
	node, live := trial.Look(m).Node(found)
	if h, is, ok := s.Found(); h != found || is != node || ok != live || s.First() != first {
		t.Fatalf("%s: it tells %d, %v, %v, %d, not %d, %d", what, h, is, ok, s.First(), found, first)
	}
}

// step has a seek take a step as the plain one does.
func step(t *testing.T, m *mem.Mem, s *Seek, p *trial.PlainSeek) {
	t.Helper()
	before := trial.Look(m)
	if is := s.Ready(m); is != p.Ready(before) {
		t.Fatalf("Ready = %v", is)
	}
	want := p.Step(before)
	if done := s.Step(m); done != p.Over() {
		t.Fatalf("Step = %v", done)
	}
	want.Check(t, m, "a step of a seek")
	checkFound(t, m, s, p.First, p.Found, "a step of a seek")
}

// The bucket is held, and the key is gone to, step by step; a handle comes where what was found stands, or, if nothing was, ahead of all; and the lock is free again.
func TestEachPlace(t *testing.T) {
	for _, n := range []int{1, 8} {
		trial.EachChain(func(length, place int) {
			m := trial.Busy(t, length+1, 2, n)
			l := trial.Lay(t, m, trial.CellOf(m, key), trial.ChainOf(n, yes(), length, place)...)
			s, p := newSeek(0), &trial.PlainSeek{Worker: 0, Key: key}
			checkFound(t, m, s, 0, 0, "New")
			for !p.Over() {
				step(t, m, s, p)
			}
			if !s.Bucket() || !s.Ready(m) {
				t.Fatalf("Bucket = %v, Ready = %v", s.Bucket(), s.Ready(m))
			}
			want := p.Lead(trial.Look(m), 9)
			s.Lead(m, 9)
			want.Check(t, m, "Lead")
			s.Drop(m)
			want.Holder(p.Lock, -1).Check(t, m, "Drop")
			checkFound(t, m, s, trial.At(l, 0), trial.At(l, place), "Drop")
		})
	}
}

// It is ready but while it waits for the bucket's lock.
func TestLockHeld(t *testing.T) {
	m := trial.Busy(t, 1, 2, 8)
	lock := trial.LockOf(fnv.Sum(key), 8)
	m.Locks.Try(lock, 1)
	s := newSeek(0)
	trial.Ahead(t, m, s, 1, "the step that loads the table's number")
	trial.Stuck(t, m, s, "the lock is held")
	m.Locks.Free(lock, 1)
	trial.Finish(t, m, s, begun-1, "the lock is free")
}

// Of a number that no table has there is no bucket, though there is a lock; as long as it isn't held there is none either.
func TestNoBucket(t *testing.T) {
	for _, number := range trial.WrongNumbers(2) {
		m := trial.Busy(t, 1, 2, 8)
		h := trial.Alloc(t, m, yes())
		for cell := range m.Cells.Len() {
			trial.Put(t, m, cell, h)
		}
		m.Cells.Store(mem.Current, number)
		before := trial.Look(m)
		s := newSeek(0)
		trial.Finish(t, m, s, begun, "a number that no table has")
		if s.Bucket() {
			t.Fatalf("of the number %d there is a bucket", number)
		}
		checkFound(t, m, s, 0, 0, "a number that no table has")
		s.Drop(m)
		before.Check(t, m, "a number that no table has")
	}
	m := trial.Busy(t, 1, 2, 8)
	s := newSeek(0)
	for i := range begun {
		if s.Bucket() != (i == begun-1) {
			t.Fatalf("behind %d steps Bucket = %v", i, s.Bucket())
		}
		trial.Step(t, m, s, i == begun-1, "a step")
	}
}
