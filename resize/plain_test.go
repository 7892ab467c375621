package resize

import (
	"slices"
	"testing"

	"quietus/api"
	"quietus/grow"
	"quietus/mem"
	"quietus/shrink"
	"quietus/trial"
)

// These are written out, so that the tests don't lean on the names that they hold.
const (
	mostWorkers  = 8
	mostNodes    = 1024
	mostBuckets  = 65536
	mostCells    = 1048576
	periodCell   = 0
	currentCell  = 1
	firstCounter = 2
	periodLock   = 0
	resizeLock   = 5
	// locks is how many are taken, and freed.
	locks = 5
	// far is how far apart the handles of one place are, from one generation to the next.
	far = 65536
	// somebody is the number of one who has locks, and is no worker.
	somebody = 1000
	// most is more steps than any resize of the tests has to take.
	most = 10000000
)

// order are the locks in the order in which they are taken.
func order() []int { return []int{5, 1, 2, 3, 4} }

// A resize is a frame.
var _ mem.Frame = (*Resize)(nil)

// Where a plain resize is.
const (
	atTake = iota
	atTurn
	atFree
	atEnd
)

// plain is a resize to a size that may be, told by its chapter's words. What its turns do grows and shrinks of a twin tell: a memory that was made as the one that is resized, of which the worker holds all locks from the beginning on.
type plain struct {
	worker, size int
	twin         *mem.Mem
	at           int
	held         int
	turn         trial.Failing
}

// look looks at which N there is, and has the next turn come, or the locks be freed.
func (p *plain) look() {
	p.at = atTurn
	switch n := p.twin.Now().N; {
	case n == p.size:
		p.at = atFree
	case n < p.size:
		p.turn = grow.New(p.worker)
	default:
		p.turn = shrink.New(p.worker)
	}
}

// mirror has the twin's counters, and who has the period's lock, be what they are.
func (p *plain) mirror(s trial.Seen) {
	for worker := range s.Workers {
		p.twin.Cells.Store(firstCounter+worker, s.Words[firstCounter+worker])
	}
	if is := p.twin.Locks.Holder(periodLock); is != s.Holders[periodLock] {
		p.twin.Locks.Free(periodLock, is)
		p.twin.Locks.Try(periodLock, s.Holders[periodLock])
	}
}

// Ready says whether its next step can be taken.
func (p *plain) Ready(s trial.Seen) bool {
	p.mirror(s)
	switch p.at {
	case atTake:
		return s.Holders[order()[p.held]] == -1
	case atTurn:
		return p.turn.Ready(p.twin)
	}
	return true
}

// Looks is at which worker's counter it looks by its next step, and whether it looks at one that is in: as soon as that one is out it is ready.
func (p *plain) Looks() (worker int, looks bool) {
	if p.at != atTurn || p.turn.Ready(p.twin) {
		return 0, false
	}
	for worker := range p.twin.Workers() {
		counter, _ := p.twin.Cells.Load(firstCounter + worker)
		p.twin.Cells.Store(firstCounter+worker, 0)
		ready := p.turn.Ready(p.twin)
		p.twin.Cells.Store(firstCounter+worker, counter)
		if ready {
			return worker, true
		}
	}
	return 0, false
}

// Step is what the resize's step has to come to, and whether the resize is done by it.
func (p *plain) Step(before, _ trial.Seen) (want trial.Seen, done bool) {
	if !p.Ready(before) {
		return before, false
	}
	switch p.at {
	case atTake:
		p.held++
		if p.held == locks {
			p.look()
		}
		return before.Holder(order()[p.held-1], p.worker), false
	case atTurn:
		if p.turn.Step(p.twin) {
			p.look()
		}
		return trial.Look(p.twin), false
	}
	p.held--
	if p.held == 0 {
		p.at = atEnd
	}
	return before.Holder(order()[p.held], -1), p.held == 0
}

// pair is a resize, and the plain one that tells what it has to do.
type pair struct {
	trial.Pair
	p *plain
}

// newPair is a memory of a table of such keys, and a pair that took no step.
func newPair(t *testing.T, workers, worker, size int, keys [][]string) (*mem.Mem, *pair) {
	t.Helper()
	m := trial.FreeTable(t, workers, keys)
	before := trial.Look(m)
	p := &plain{worker: worker, size: size, twin: trial.HeldTable(t, workers, worker, keys)}
	x := &pair{trial.Pair{T: t, F: New(worker, size), P: p}, p}
	x.Tells("New")
	before.Check(t, m, "New")
	return m, x
}

// pathOf are the numbers of buckets of those tables that come to count from n of them to a size, in order.
func pathOf(n, size int) []int {
	var l []int
	for n != size {
		if n < size {
			n *= 2
		} else {
			n /= 2
		}
		l = append(l, n)
	}
	return l
}

// resized is what there has to be of such keys behind a resize to a size.
func resized(keys [][]string, size int) [][]string {
	for _, n := range pathOf(len(keys), size) {
		keys = trial.Spread(keys, n)
	}
	return keys
}

// stepsOf is how many steps a resize of such keys takes, alone: as many as its grows or shrinks, and one for each lock that is taken, or freed.
func stepsOf(t *testing.T, workers, size int, keys [][]string) int {
	t.Helper()
	twin := trial.HeldTable(t, workers, 0, keys)
	steps := 2 * locks
	for _, n := range pathOf(len(keys), size) {
		var turn mem.Frame = shrink.New(0)
		if n > twin.Now().N {
			turn = grow.New(0)
		}
		took, _ := mem.Finish(twin, turn, most)
		steps += took
	}
	return steps
}

// made says whether behind what there was just those tables were made that a resize to a size needs.
func made(t *testing.T, m *mem.Mem, before trial.Seen, size int) {
	t.Helper()
	var l []int
	tables := len(before.Tables)
	for desc, ok := m.Desc(tables); ok; desc, ok = m.Desc(tables + len(l)) {
		l = append(l, desc.N)
	}
	if want := pathOf(before.Tables[before.Words[currentCell]].N, size); !slices.Equal(l, want) {
		t.Fatalf("the tables that were made are of %v buckets, not of %v", l, want)
	}
}

// nobodyHolds says whether all locks are free.
func nobodyHolds(t *testing.T, m *mem.Mem, what string) {
	t.Helper()
	for lock := range m.Locks.Len() {
		if holder := m.Locks.Holder(lock); holder != -1 {
			t.Fatalf("%s: the lock %d has %d", what, lock, holder)
		}
	}
}

// resizes has a resize take all steps, alone, and looks at each, and at what all come to.
func resizes(t *testing.T, workers, worker, size int, keys [][]string) *mem.Mem {
	t.Helper()
	m, x := newPair(t, workers, worker, size, keys)
	before := trial.Look(m)
	if took, want := x.Finish(m), stepsOf(t, workers, size, keys); took != want {
		t.Fatalf("of %v to %d it takes %d steps, not %d", keys, size, took, want)
	}
	x.Tells("behind the end")
	trial.CheckTable(t, m, resized(keys, size))
	nobodyHolds(t, m, "resized")
	made(t, m, before, size)
	return m
}

// finish has a resize take all its steps, for each of which it has to be ready, and by which it has to be done without an error.
func finish(t *testing.T, m *mem.Mem, worker, size int) int {
	t.Helper()
	r := New(worker, size)
	n, done := mem.Finish(m, r, most)
	if e := r.Err(); !done || e != api.OK || m.Now().N != size {
		t.Fatalf("to %d: behind %d steps it is done: %v, Err = %v, the table is %v", size, n, done, e, m.Now())
	}
	return n
}
