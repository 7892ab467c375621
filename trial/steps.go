package trial

import (
	"slices"

	"quietus/arena"
	"quietus/fnv"
	"quietus/mem"
)

// Steps are the steps of one frame that changes what a key has, by the lock of the key's bucket, each of which is looked at.
type Steps struct {
	T      T
	M      *mem.Mem
	F      mem.Frame
	Worker int
	Key    string
	// Now is the table whose bucket is held, or is to be.
	Now mem.Desc
	// Told says whether the frame tells what it has to.
	Told func(what string)
}

// NewSteps are those of a frame that took no step, by whose making nothing is changed.
func NewSteps(t T, m *mem.Mem, worker int, key string, made func() mem.Frame, told func(what string)) *Steps {
	t.Helper()
	before := Look(m)
	s := &Steps{T: t, M: m, F: made(), Worker: worker, Key: key, Told: told}
	before.Check(t, m, "New")
	s.Tells("New")
	return s
}

// Tells says whether the frame tells what it has to, by which nothing is changed.
func (s *Steps) Tells(what string) {
	s.T.Helper()
	before := Look(s.M)
	s.Told(what)
	before.Check(s.T, s.M, what+", told")
}

// Take takes a step that has to come to this memory, and by which the frame is done, or not.
func (s *Steps) Take(want Seen, done bool, what string) {
	s.T.Helper()
	before := Look(s.M)
	s.F.Ready(s.M)
	before.Check(s.T, s.M, what+", Ready")
	Step(s.T, s.M, s.F, done, what)
	want.Check(s.T, s.M, what)
	s.Tells(what)
}

// Still takes a step that changes nothing.
func (s *Steps) Still(what string) {
	s.T.Helper()
	s.Take(Look(s.M), false, what)
}

// Stuck takes steps for which it mustn't be ready.
func (s *Steps) Stuck(what string) {
	s.T.Helper()
	Stuck(s.T, s.M, s.F, what)
	s.Tells(what)
}

// Load takes a step that loads the table's number.
func (s *Steps) Load() {
	s.T.Helper()
	s.Now = s.M.Now()
	s.Still("the step that loads the table's number")
}

// LockOf is the lock of the bucket.
func (s *Steps) LockOf() int { return LockOf(fnv.Sum(s.Key), s.Now.N) }

// Lock takes a step that takes the bucket's lock.
func (s *Steps) Lock() {
	s.T.Helper()
	s.Take(Look(s.M).Holder(s.LockOf(), s.Worker), false, "the step that takes the lock")
}

// Again takes a step that loads the table's number again.
func (s *Steps) Again() {
	s.T.Helper()
	s.Still("the step that loads the table's number again")
}

// Free takes a step that frees the lock of a table that doesn't count any more.
func (s *Steps) Free() {
	s.T.Helper()
	s.Take(Look(s.M).Holder(s.LockOf(), -1), false, "the step that frees the lock")
}

// Hold takes the steps that hold the bucket.
func (s *Steps) Hold() {
	s.T.Helper()
	s.Load()
	s.Lock()
	s.Again()
}

// Cell takes a step that loads the bucket's cell.
func (s *Steps) Cell() {
	s.T.Helper()
	s.Still("the step that loads the bucket's cell")
}

// Begin takes the steps ahead of the first node.
func (s *Steps) Begin() {
	s.T.Helper()
	s.Hold()
	s.Cell()
}

// Pass takes so many steps, each of which reads a node that isn't the one.
func (s *Steps) Pass(n int) {
	s.T.Helper()
	for range n {
		s.Still("a step that reads a node")
	}
}

// Fail takes a step that finds a handle stale.
func (s *Steps) Fail() {
	s.T.Helper()
	want := Look(s.M)
	want.Fault = true
	s.Take(want, false, "a step at a stale handle")
}

// Lead takes a step by which this handle comes next behind another one, or, if that is 0, as the first one.
func (s *Steps) Lead(ahead, h arena.Handle) {
	s.T.Helper()
	want := Look(s.M)
	if ahead == 0 {
		want = want.Word(CellIn(s.Now, s.Key), uint64(h))
	} else {
		want = want.Linked(ahead, h)
	}
	s.Take(want, false, "the step that changes the chain")
}

// Wait takes a step by which this handle comes to wait, behind those that do.
func (s *Steps) Wait(h arena.Handle) {
	s.T.Helper()
	before := Look(s.M)
	s.Take(before.Wait(slices.Concat(before.Waiting, []arena.Handle{h})...), false, "the step by which a node waits")
}

// Drop takes the last step: the bucket is dropped.
func (s *Steps) Drop() {
	s.T.Helper()
	s.Take(Look(s.M).Holder(s.LockOf(), -1), true, "the last step")
	if held := s.M.Locks.Held(s.Worker); len(held) != 0 {
		s.T.Fatalf("behind the last step its worker holds %v", held)
	}
}
