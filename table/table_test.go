package table

import (
	"fmt"
	"math"
	"testing"

	"quietus/api"
	"quietus/arena"
	"quietus/mem"
	"quietus/trial"
)

// These are written out, so that the tests don't lean on the names that they hold.
const (
	mostWorkers = 8
	mostBuckets = 65536
	currentCell = 1
	firstWriter = 1
	lastWriter  = 4
	// alone is how many steps a hold takes, if the same table counts all the while; anew is how many it takes more each time that another one comes to count.
	alone = 3
	anew  = 4
)

// A hold is a frame.
var _ mem.Frame = (*Hold)(nil)

// sums are sums of all buckets of 8, and great ones, of all four locks.
func sums() []uint32 {
	l := []uint32{1<<16 - 1, 1 << 16, 1<<16 + 5, 1<<31 - 1, 1 << 31, 1<<31 + 6, math.MaxUint32 - 3, math.MaxUint32 - 2, math.MaxUint32 - 1, math.MaxUint32}
	for sum := range uint32(9) {
		l = append(l, sum)
	}
	return l
}

// newMem is a memory that has tables of these sizes, from table 1 on, of which the last one counts, with a node, one that waits, a counter, and locks that are held that aren't writers', so that it is to be seen if they are touched.
func newMem(t *testing.T, workers int, sizes ...int) *mem.Mem {
	t.Helper()
	m, e := mem.New(3, workers)
	if m == nil || e != api.OK {
		t.Fatalf("mem.New(3, %d) = %v, %v", workers, m, e)
	}
	h, _ := m.Arena.Alloc(arena.Node{Key: "k", Val: "v"})
	m.Cells.Store(m.Now().Base, uint64(h))
	m.Retire(h)
	m.Cells.Store(mem.Counter(workers-1), 1)
	m.Locks.Try(mem.PeriodLock, workers)
	m.Locks.Try(mem.ResizeLock, 0)
	for _, n := range sizes {
		trial.Count(m, trial.NewTable(t, m, n))
	}
	return m
}

// descOf is a table that there is.
func descOf(t *testing.T, m *mem.Mem, number int) mem.Desc {
	t.Helper()
	desc, ok := m.Desc(number)
	if !ok {
		t.Fatalf("there is no table %d", number)
	}
	return desc
}

// checkHas says whether a hold tells this table, and this lock.
func checkHas(t *testing.T, h *Hold, desc mem.Desc, lock int, what string) {
	t.Helper()
	if h.Desc() != desc || h.Lock() != lock {
		t.Fatalf("%s: Desc, Lock = %v, %d, not %v, %d", what, h.Desc(), h.Lock(), desc, lock)
	}
}

// checkNone says whether a hold tells that it has no lock, and whether a Drop of it does nothing.
func checkNone(t *testing.T, m *mem.Mem, h *Hold, what string) {
	t.Helper()
	checkHas(t, h, mem.Desc{}, -1, what)
	before := trial.Look(m)
	if h.Drop(m) {
		t.Fatalf("%s: Drop = true", what)
	}
	before.Check(t, m, what+", Drop")
	checkHas(t, h, mem.Desc{}, -1, what+", Drop")
}

// drop drops a hold that is done, once: its lock is free behind that, and nothing else is changed.
func drop(t *testing.T, m *mem.Mem, h *Hold, what string) {
	t.Helper()
	want := trial.Look(m).Holder(h.Lock(), -1)
	if !h.Drop(m) {
		t.Fatalf("%s: Drop = false", what)
	}
	want.Check(t, m, what+", dropped")
	checkNone(t, m, h, what+", dropped")
}

// steps are the steps of one hold, each of which is looked at.
type steps struct {
	t *testing.T
	m *mem.Mem
	h *Hold
	// worker and sum are the hold's.
	worker int
	sum    uint32
}

// newSteps is a hold that took no step, by which nothing is changed.
func newSteps(t *testing.T, m *mem.Mem, worker int, sum uint32) *steps {
	t.Helper()
	before := trial.Look(m)
	s := &steps{t: t, m: m, h: New(worker, sum), worker: worker, sum: sum}
	before.Check(t, m, "New")
	checkNone(t, m, s.h, "New")
	return s
}

// take takes a step that has to come to this memory, and tells nothing of a table and a lock, since it isn't done.
func (s *steps) take(want trial.Seen, what string) {
	s.t.Helper()
	before := trial.Look(s.m)
	s.h.Ready(s.m)
	before.Check(s.t, s.m, what+", Ready")
	trial.Step(s.t, s.m, s.h, false, what)
	want.Check(s.t, s.m, what)
	checkNone(s.t, s.m, s.h, what)
}

// load takes a first step: nothing is changed.
func (s *steps) load() {
	s.t.Helper()
	s.take(trial.Look(s.m), "the first step")
}

// lock takes a second step: this lock is taken.
func (s *steps) lock(lock int) {
	s.t.Helper()
	s.take(trial.Look(s.m).Holder(lock, s.worker), "the second step")
}

// other takes a third step to which another table counts: nothing is changed.
func (s *steps) other() {
	s.t.Helper()
	s.take(trial.Look(s.m), "the third step, another table counts")
}

// free takes a fourth step: this lock is freed.
func (s *steps) free(lock int) {
	s.t.Helper()
	s.take(trial.Look(s.m).Holder(lock, -1), "the fourth step")
}

// end takes a third step to which the same table counts: nothing is changed, and it has the lock of this table.
func (s *steps) end(number int) {
	s.t.Helper()
	before := trial.Look(s.m)
	trial.Step(s.t, s.m, s.h, true, "the third step")
	before.Check(s.t, s.m, "the third step")
	s.has(number, "the third step")
}

// has says whether it has the lock of this table, and no other one.
func (s *steps) has(number int, what string) {
	s.t.Helper()
	desc := descOf(s.t, s.m, number)
	lock := trial.LockOf(s.sum, desc.N)
	for range 2 {
		checkHas(s.t, s.h, desc, lock, what)
	}
	for i := firstWriter; i <= lastWriter; i++ {
		if mine := s.m.Locks.Holder(i) == s.worker; mine != (i == lock) {
			s.t.Fatalf("%s: of the lock %d the holder is %d", what, i, s.m.Locks.Holder(i))
		}
	}
}

// all takes all steps, while the same table counts, and drops it.
func (s *steps) all(number int) {
	s.t.Helper()
	s.load()
	s.lock(trial.LockOf(s.sum, descOf(s.t, s.m, number).N))
	s.end(number)
	drop(s.t, s.m, s.h, "a hold")
}

// sizes are all numbers of buckets that may be.
func sizes() []int {
	var l []int
	for n := 1; n <= mostBuckets; n *= 2 {
		l = append(l, n)
	}
	return l
}

// P8.1, P8.2: alone a hold takes its three steps, each of which does what the chapter says, and nothing else; then it has the lock of the sum's bucket, of the table that counts, whatever the worker, the sum, and the number of buckets, till it is dropped.
func TestAlone(t *testing.T) {
	for workers := 1; workers <= mostWorkers; workers++ {
		for worker := range workers {
			for _, sum := range sums() {
				newSteps(t, newMem(t, workers), worker, sum).all(0)
				for i, n := range []int{1, 2, 4, 8, 64} {
					newSteps(t, newMem(t, workers, []int{1, 2, 4, 8, 64}[:i+1]...), worker, sum).all(i + 1)
					newSteps(t, newMem(t, workers, n), worker, sum).all(1)
				}
			}
		}
	}
	for _, n := range sizes() {
		m := newMem(t, 2, n)
		for _, sum := range []uint32{2, mostBuckets - 1, mostBuckets + 3, math.MaxUint32} {
			newSteps(t, m, 1, sum).all(1)
		}
	}
}

// P8.1: so many steps they are, of each number of buckets, of sums of all four locks; of one bucket there is one lock, of two buckets there are two, of more there are four.
func TestHowMany(t *testing.T) {
	for _, n := range sizes() {
		m := newMem(t, 2, n)
		used := map[int]bool{}
		for sum := range uint32(64) {
			h := New(1, sum)
			trial.Finish(t, m, h, alone, "a hold")
			checkHas(t, h, descOf(t, m, 1), trial.LockOf(sum, n), "a hold")
			used[h.Lock()] = true
			drop(t, m, h, "a hold")
		}
		if len(used) != min(n, 4) {
			t.Errorf("of %d buckets the locks are %v", n, used)
		}
	}
}

// P8.1: the lock is the sum's, not one of a sum that differs by the buckets' number, or by what it is of a table that doesn't count.
func TestWhichLock(t *testing.T) {
	cases := []struct {
		sum     uint32
		n, lock int
	}{
		{6, 1, 1}, {6, 2, 1}, {6, 4, 3}, {6, 8, 3}, {6, mostBuckets, 3},
		{7, 1, 1}, {7, 2, 2}, {7, 4, 4}, {7, 8, 4}, {7, mostBuckets, 4},
		{5, 1, 1}, {5, 2, 2}, {5, 4, 2}, {5, 8, 2}, {0, 8, 1},
		{math.MaxUint32, 1, 1}, {math.MaxUint32, 2, 2}, {math.MaxUint32, 4, 4}, {math.MaxUint32 - 1, mostBuckets, 3},
	}
	for _, c := range cases {
		m := newMem(t, 2, 4, c.n, 2)
		trial.Count(m, 2)
		h := New(0, c.sum)
		trial.Finish(t, m, h, alone, "a hold")
		checkHas(t, h, descOf(t, m, 2), c.lock, "a hold")
		if m.Locks.Holder(c.lock) != 0 {
			t.Errorf("of the sum %d, of %d buckets, the holder of the lock %d is %d", c.sum, c.n, c.lock, m.Locks.Holder(c.lock))
		}
	}
}

// P8.1: the table is loaded by the first step, not ahead of it.
func TestLoadsLate(t *testing.T) {
	m := newMem(t, 2, 8)
	trial.Count(m, 0)
	s := newSteps(t, m, 1, 6)
	s.h.Ready(m)
	trial.Count(m, 1)
	s.all(1)
}

// P8.1, P8.2: a table that comes to count between the two loads, ahead of the lock or behind it, has the hold free the lock, in a step of its own, and begin anew; then it has the lock of that table.
func TestOtherBetween(t *testing.T) {
	for _, sum := range sums() {
		for _, elder := range []int{1, 2, 4, 8} {
			for _, newer := range []int{1, 2, 4, 8, 16} {
				for _, early := range []bool{true, false} {
					m := newMem(t, 3, newer, elder)
					s := newSteps(t, m, 2, sum)
					s.load()
					if early {
						trial.Count(m, 1)
					}
					s.lock(trial.LockOf(sum, elder))
					trial.Count(m, 1)
					s.other()
					s.free(trial.LockOf(sum, elder))
					s.all(1)
				}
			}
		}
	}
}

// P8.1: another table of as many buckets, whose lock is the same one, is another one yet.
func TestOtherOfSameSize(t *testing.T) {
	for _, n := range []int{1, 2, 8} {
		m := newMem(t, 2, n, n)
		s := newSteps(t, m, 0, 7)
		s.load()
		s.lock(trial.LockOf(7, n))
		trial.Count(m, 1)
		s.other()
		s.free(trial.LockOf(7, n))
		s.all(1)
	}
}

// P8.1: a table that counted, and counts again by the second load, is the same one: it is done.
func TestSameAgain(t *testing.T) {
	m := newMem(t, 2, 8, 2)
	trial.Count(m, 1)
	s := newSteps(t, m, 1, 6)
	s.load()
	trial.Count(m, 2)
	trial.Count(m, 1)
	s.lock(3)
	trial.Count(m, 2)
	s.h.Ready(m)
	trial.Count(m, 1)
	s.end(1)
	drop(t, m, s.h, "the same table")
}

// P8.1: if the first table counts again behind the second load, the lock is freed yet, and it begins anew.
func TestSameAgainTooLate(t *testing.T) {
	for _, behind := range []bool{false, true} {
		m := newMem(t, 2, 8, 2)
		trial.Count(m, 1)
		s := newSteps(t, m, 1, 6)
		s.load()
		s.lock(3)
		trial.Count(m, 2)
		s.other()
		if !behind {
			trial.Count(m, 1)
		}
		s.free(3)
		trial.Count(m, 1)
		s.all(1)
	}
}

// P8.1: it begins anew as often as another table comes to count, by four steps each time; then the next load is held against the last one, not against the first.
func TestOverAndOver(t *testing.T) {
	for times := range 20 {
		m := newMem(t, 2, 8, 2, 1)
		h := New(1, 7)
		now := 3
		for range times {
			trial.Ahead(t, m, h, 2, "the steps up to the lock")
			now = 1 + now%3
			trial.Count(m, now)
			trial.Ahead(t, m, h, anew-2, "the steps from the second load on")
			checkNone(t, m, h, "begun anew")
		}
		trial.Finish(t, m, h, alone, "a hold")
		checkHas(t, h, descOf(t, m, now), trial.LockOf(7, descOf(t, m, now).N), "a hold")
	}
}

// P8.1: a table that was made while the hold was on its way counts as any other one does.
func TestMadeMeanwhile(t *testing.T) {
	for at := range 3 {
		m := newMem(t, 2)
		h := New(1, 7)
		trial.Ahead(t, m, h, at, "a step ahead")
		trial.Count(m, trial.NewTable(t, m, 4))
		// Ahead of the first load there is nothing to begin anew.
		left := alone
		if at > 0 {
			left += anew - at
		}
		trial.Finish(t, m, h, left, "the steps that are left")
		checkHas(t, h, descOf(t, m, 1), 4, "a hold")
		drop(t, m, h, "a hold")
	}
}

// P8.1: a table that comes to count behind the second load changes nothing of what the hold has, and of what is dropped.
func TestOtherBehind(t *testing.T) {
	for _, sum := range sums() {
		m := newMem(t, 2, 2, 8)
		s := newSteps(t, m, 1, sum)
		s.load()
		s.lock(trial.LockOf(sum, 8))
		s.end(2)
		for _, number := range []int{1, 0, 2, 1} {
			trial.Count(m, number)
			s.has(2, "behind the second load")
		}
		drop(t, m, s.h, "a hold")
	}
}

// hold is a hold that is done.
func hold(t *testing.T, m *mem.Mem, worker int, sum uint32) *Hold {
	t.Helper()
	h := New(worker, sum)
	trial.Finish(t, m, h, alone, "a hold")
	return h
}

// P8.1: for the second step it is ready just if the lock is free, whoever holds it; steps that are taken before change nothing, and once it is freed the hold goes on.
func TestLockHeld(t *testing.T) {
	for _, holder := range []int{0, 1, 2, 7, 1000, math.MaxInt} {
		for _, sum := range sums() {
			m := newMem(t, 2, 8)
			lock := trial.LockOf(sum, 8)
			m.Locks.Try(lock, holder)
			s := newSteps(t, m, 1, sum)
			s.load()
			trial.Stuck(t, m, s.h, "the lock is held")
			checkNone(t, m, s.h, "the lock is held")
			m.Locks.Free(lock, holder)
			s.lock(lock)
			s.end(1)
			drop(t, m, s.h, "a hold")
		}
	}
}

// P8.1: other locks don't matter, and are left to their holders.
func TestOtherLocksHeld(t *testing.T) {
	for _, sum := range []uint32{4, 5, 6, 7} {
		for _, holder := range []int{0, 1, 9} {
			m := newMem(t, 2, 8)
			for lock := range m.Locks.Len() {
				if lock != trial.LockOf(sum, 8) {
					m.Locks.Try(lock, holder)
				}
			}
			before := trial.Look(m)
			h := New(1, sum)
			trial.Finish(t, m, h, alone, "a hold")
			before.Holder(trial.LockOf(sum, 8), 1).Check(t, m, "a hold")
			checkHas(t, h, descOf(t, m, 1), trial.LockOf(sum, 8), "a hold")
			if !h.Drop(m) {
				t.Fatal("Drop = false")
			}
			before.Check(t, m, "dropped")
		}
	}
}

// P8.1: what counts is the lock now: ready as it is freed, not any more as another one takes it.
func TestLockNow(t *testing.T) {
	m := newMem(t, 3, 4)
	s := newSteps(t, m, 1, 6)
	s.load()
	for range 3 {
		if !s.h.Ready(m) {
			t.Fatal("the lock is free, it isn't ready")
		}
		m.Locks.Try(3, 2)
		trial.Stuck(t, m, s.h, "another one was first")
		m.Locks.Free(3, 2)
	}
	s.lock(3)
	s.end(1)
}

// P8.1: it is the second step alone that a lock keeps back: it is ready for each other one, though all locks are held, its own by itself.
func TestReadyForOthers(t *testing.T) {
	m := newMem(t, 3, 4, 8)
	for _, lock := range []int{1, 2, 3, 4} {
		m.Locks.Try(lock, 2)
	}
	s := newSteps(t, m, 1, 6)
	s.load()
	trial.Stuck(t, m, s.h, "all locks are held")
	m.Locks.Free(3, 2)
	s.lock(3)
	trial.Count(m, 1)
	s.other()
	s.free(3)
	m.Locks.Try(3, 0)
	s.load()
	trial.Stuck(t, m, s.h, "the lock was taken by another one meanwhile")
	m.Locks.Free(3, 0)
	s.lock(3)
	s.end(1)
}

// P8.1: while it isn't ready for its second step a table that comes to count doesn't change which lock it is at: that of the table that it loaded.
func TestOtherWhileHeld(t *testing.T) {
	m := newMem(t, 3, 8, 1)
	m.Locks.Try(1, 2)
	s := newSteps(t, m, 0, 6)
	s.load()
	trial.Count(m, 1)
	trial.Stuck(t, m, s.h, "the elder table's lock is held")
	m.Locks.Free(1, 2)
	m.Locks.Try(3, 2)
	s.lock(1)
	s.other()
	s.free(1)
	s.load()
	trial.Stuck(t, m, s.h, "the newer table's lock is held")
	m.Locks.Free(3, 2)
	s.lock(3)
	s.end(1)
}

// P8.1: of two holds of one lock, of two workers or of one, of one sum or of two, the second isn't ready for its second step till the first is dropped.
func TestTwoOfOneLock(t *testing.T) {
	for _, worker := range []int{0, 1} {
		for _, sum := range []uint32{6, 2, 10, math.MaxUint32 - 1} {
			m := newMem(t, 2, 8)
			one, two := New(1, 6), New(worker, sum)
			trial.Ahead(t, m, one, 1, "the first one's first step")
			trial.Ahead(t, m, two, 1, "the second one's first step")
			trial.Ahead(t, m, one, 1, "the first one's second step")
			trial.Stuck(t, m, two, "beside one that has the lock")
			trial.Step(t, m, one, true, "the first one's third step")
			trial.Stuck(t, m, two, "beside one that is done")
			checkNone(t, m, two, "beside one that is done")
			checkHas(t, one, descOf(t, m, 1), 3, "the first one")
			drop(t, m, one, "the first one")
			trial.Finish(t, m, two, 2, "the second one")
			checkNone(t, m, one, "behind the second one's end")
			checkHas(t, two, descOf(t, m, 1), 3, "the second one")
			drop(t, m, two, "the second one")
		}
	}
}

// P8.1: the second one isn't ready either while the first is at a table that doesn't count any more, till that frees the lock.
func TestTwoOfOneLockAnew(t *testing.T) {
	m := newMem(t, 2, 4, 8)
	one, two := New(0, 6), New(1, 6)
	trial.Ahead(t, m, one, 2, "the first one's steps")
	trial.Count(m, 1)
	trial.Ahead(t, m, two, 1, "the second one's first step")
	trial.Stuck(t, m, two, "the lock is taken")
	trial.Ahead(t, m, one, 1, "the first one's third step")
	trial.Stuck(t, m, two, "the lock isn't freed yet")
	trial.Ahead(t, m, one, 1, "the first one's fourth step")
	trial.Finish(t, m, two, 2, "the second one")
	checkHas(t, two, descOf(t, m, 1), 3, "the second one")
	trial.Ahead(t, m, one, 1, "the first one's first step again")
	trial.Stuck(t, m, one, "the second one has the lock")
	drop(t, m, two, "the second one")
	trial.Finish(t, m, one, 2, "the first one")
}

// P8.1: holds of different locks, of one worker or of several, are each by their own, and so are their Drops, in any order.
func TestOfDifferentLocks(t *testing.T) {
	for _, order := range [][]int{{0, 1, 2, 3}, {3, 2, 1, 0}, {2, 0, 3, 1}} {
		for _, step := range []int{0, 1} {
			m := newMem(t, 4, 4)
			before := trial.Look(m)
			var holds []*Hold
			for sum := range 4 {
				holds = append(holds, New(sum*step, uint32(sum)))
			}
			for range 2 {
				for _, h := range holds {
					trial.Ahead(t, m, h, 1, "a step")
				}
			}
			want := before
			for sum, h := range holds {
				trial.Step(t, m, h, true, "the third step")
				want = want.Holder(1+sum, sum*step)
			}
			want.Check(t, m, "four holds")
			for _, i := range order {
				checkHas(t, holds[i], descOf(t, m, 1), 1+i, "one of four")
				drop(t, m, holds[i], "one of four")
			}
			before.Check(t, m, "four Drops")
		}
	}
}

// P8.1: a Drop behind a Drop does nothing, though the same worker has that lock again by another hold, or another one has it.
func TestDropTwice(t *testing.T) {
	for _, worker := range []int{0, 1} {
		m := newMem(t, 2, 8)
		one := hold(t, m, 1, 6)
		drop(t, m, one, "the first one")
		two := hold(t, m, worker, 6)
		checkNone(t, m, one, "behind its Drop")
		checkHas(t, two, descOf(t, m, 1), 3, "the second one")
		drop(t, m, two, "the second one")
	}
}

// P8.1: a Drop ahead of the end does nothing, ahead of each step, and while it isn't ready; the steps go on as if there was none.
func TestDropAhead(t *testing.T) {
	m := newMem(t, 2, 2, 8)
	s := newSteps(t, m, 1, 6)
	ahead := func(what string) {
		t.Helper()
		for range 3 {
			checkNone(t, m, s.h, what)
		}
	}
	ahead("ahead of the first step")
	s.load()
	m.Locks.Try(3, 1)
	trial.Stuck(t, m, s.h, "its worker has the lock by something else")
	ahead("while it isn't ready")
	m.Locks.Free(3, 1)
	ahead("ahead of the second step")
	s.lock(3)
	ahead("ahead of the third step")
	trial.Count(m, 1)
	s.other()
	ahead("ahead of the fourth step")
	s.free(3)
	ahead("ahead of the first step again")
	s.load()
	s.lock(1)
	s.end(1)
	drop(t, m, s.h, "a hold")
}

// P8.1: a hold that is dropped leaves the worker's other locks to it.
func TestDropLeavesOthers(t *testing.T) {
	m := newMem(t, 2, 8)
	for _, lock := range []int{1, 2, 4} {
		m.Locks.Try(lock, 1)
	}
	drop(t, m, hold(t, m, 1, 6), "a hold")
	if held := m.Locks.Held(1); len(held) != 3 {
		t.Errorf("the worker's locks are %v", held)
	}
}

// R3: holds of two memories know nothing of each other.
func TestTwoMemories(t *testing.T) {
	m, o := newMem(t, 2, 8), newMem(t, 3, 2, 4)
	one, two := New(1, 6), New(1, 6)
	wantM, wantO := trial.Look(m).Holder(3, 1), trial.Look(o).Holder(3, 1)
	for i := range alone {
		trial.Step(t, m, one, i == alone-1, "the one")
		trial.Step(t, o, two, i == alone-1, "the other")
	}
	wantM.Check(t, m, "the one")
	wantO.Check(t, o, "the other")
	checkHas(t, one, descOf(t, m, 1), 3, "the one")
	checkHas(t, two, descOf(t, o, 2), 3, "the other")
}

// P8.1: of a number that no table has the N is 0, of which each sum's lock is lock 1: the hold takes its three steps, and has that lock, and the zero table.
func TestWrongNumber(t *testing.T) {
	for _, number := range trial.WrongNumbers(3) {
		for _, sum := range sums() {
			m := newMem(t, 2, 8, 4)
			m.Cells.Store(currentCell, number)
			m.Locks.Try(4, 0)
			s := newSteps(t, m, 1, sum)
			s.load()
			s.lock(1)
			what := fmt.Sprintf("of the number %d, of the sum %d", number, sum)
			before := trial.Look(m)
			trial.Step(t, m, s.h, true, what)
			before.Check(t, m, what)
			checkHas(t, s.h, mem.Desc{}, 1, what)
			drop(t, m, s.h, what)
		}
	}
}

// P8.1: a number that no table has, and one that a table has, are two, whichever of them comes first, though their low bits are the same.
func TestWrongNumberBetween(t *testing.T) {
	for _, number := range trial.WrongNumbers(2) {
		m := newMem(t, 2, 8)
		m.Cells.Store(currentCell, number)
		s := newSteps(t, m, 1, 6)
		s.load()
		s.lock(1)
		trial.Count(m, 1)
		s.other()
		s.free(1)
		s.load()
		s.lock(3)
		m.Cells.Store(currentCell, number)
		s.other()
		s.free(3)
		trial.Count(m, 1)
		s.all(1)
	}
}

// P8.1: of a number that no table has lock 1 is what it is ready by.
func TestWrongNumberHeld(t *testing.T) {
	m := newMem(t, 2, 8)
	m.Cells.Store(currentCell, 2)
	m.Locks.Try(1, 0)
	h := New(1, 6)
	trial.Ahead(t, m, h, 1, "the first step")
	trial.Stuck(t, m, h, "lock 1 is held")
	m.Locks.Free(1, 0)
	trial.Finish(t, m, h, 2, "the steps that are left")
}

// P8.2: the lock is of the N that the table has when that is taken: a number that a table comes to have behind the first step is that table's.
func TestNumberComesToBe(t *testing.T) {
	m := newMem(t, 2, 4)
	m.Cells.Store(currentCell, 2)
	m.Locks.Try(1, 0)
	s := newSteps(t, m, 1, 6)
	s.load()
	trial.Stuck(t, m, s.h, "there is no such table")
	trial.NewTable(t, m, 8)
	s.lock(3)
	s.end(2)
}

// P8.1: whatever number from 0 on a worker has, it has the lock.
func TestNumbersOfWorkers(t *testing.T) {
	for _, worker := range append(trial.NotWorkers(), 0, 1, 2, 3) {
		if worker < 0 {
			continue
		}
		m := newMem(t, 2, 8)
		s := newSteps(t, m, worker, 6)
		s.all(1)
	}
}

// R1: of a number below 0, which can have no lock, all calls end, and it is never ready for the second step, by which nothing is changed.
func TestBelowWorkers(t *testing.T) {
	for _, worker := range trial.NotWorkers() {
		if worker >= 0 {
			continue
		}
		m := newMem(t, 2, 8)
		s := newSteps(t, m, worker, 6)
		s.load()
		trial.Stuck(t, m, s.h, "no lock is to be had")
		checkNone(t, m, s.h, "no lock is to be had")
		m.Locks.Try(3, 1)
		trial.Stuck(t, m, s.h, "the lock is held")
		if n, done := mem.Finish(m, New(worker, 6), 9); n != 1 || done {
			t.Fatalf("Finish = %d, %v", n, done)
		}
	}
}

// R1: if somebody else freed the lock, in the worker's name, calls end, and don't panic; who has it then keeps it.
func TestFreedByAnother(t *testing.T) {
	m := newMem(t, 2, 8)
	h := hold(t, m, 1, 6)
	m.Locks.Free(3, 1)
	m.Locks.Try(3, 0)
	h.Ready(m)
	h.Drop(m)
	h = New(1, 7)
	trial.Ahead(t, m, h, 2, "the steps up to the lock")
	m.Locks.Free(4, 1)
	m.Locks.Try(4, 0)
	trial.Count(m, 0)
	trial.Ahead(t, m, h, 2, "the steps from the second load on")
	if m.Locks.Holder(3) != 0 || m.Locks.Holder(4) != 0 {
		t.Errorf("the holders are %d, %d", m.Locks.Holder(3), m.Locks.Holder(4))
	}
}

// R1: steps behind the last one, and behind Drop, don't panic, and change nothing.
func TestStepBehindEnd(t *testing.T) {
	m := newMem(t, 2, 4, 8)
	h := hold(t, m, 1, 6)
	behind := func(what string) {
		t.Helper()
		before := trial.Look(m)
		desc, lock := h.Desc(), h.Lock()
		for i := range 9 {
			h.Ready(m)
			h.Step(m)
			trial.Count(m, i%3)
		}
		trial.Count(m, 2)
		before.Check(t, m, what)
		checkHas(t, h, desc, lock, what)
	}
	behind("behind the end")
	drop(t, m, h, "a hold")
	behind("behind Drop")
}

// The document's example: a hold, alone, takes 3 steps.
func TestExample(t *testing.T) {
	m, _ := mem.New(2, 2)
	h := New(0, 5)
	if n, done := mem.Finish(m, h, 99); n != 3 || !done || h.Lock() != 1 || h.Desc() != m.Now() {
		t.Fatalf("Finish = %d, %v, Desc = %v, Lock = %d", n, done, h.Desc(), h.Lock())
	}
}
