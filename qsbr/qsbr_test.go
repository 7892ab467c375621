package qsbr

import (
	"math"
	"testing"

	"quietus/api"
	"quietus/arena"
	"quietus/mem"
	"quietus/trial"
)

// These are written out, so that the tests don't lean on the names that they hold.
const (
	mostWorkers  = 8
	periodCell   = 0
	firstCounter = 2
	periodLock   = 0
)

// Each of the three is a frame.
var (
	_ mem.Frame = (*Coming)(nil)
	_ mem.Frame = (*Going)(nil)
	_ mem.Frame = (*Wait)(nil)
)

// newMem is a memory in which all stay out, with a node, locks that are held and one that waits, so that it is to be seen if they are touched.
func newMem(t *testing.T, workers int) *mem.Mem {
	t.Helper()
	m, e := mem.New(3, workers)
	if m == nil || e != api.OK {
		t.Fatalf("mem.New(3, %d) = %v, %v", workers, m, e)
	}
	h, _ := m.Arena.Alloc(arena.Node{Key: "k", Val: "v"})
	// Behind the last counter stands table 0: a handle that isn't one that is passed, if it is taken for a counter.
	m.Cells.Store(m.Now().Base, uint64(h))
	i, _ := m.Table(2)
	m.Cells.Store(mem.Current, uint64(i))
	m.Cells.Store(m.Now().Base+1, uint64(h))
	m.Retire(h)
	m.Locks.Try(mem.ResizeLock, 0)
	m.Locks.Try(2, workers-1)
	return m
}

// setPeriod has the period be a word.
func setPeriod(m *mem.Mem, word uint64) { m.Cells.Store(periodCell, word) }

// setCounter has a worker's counter be a word.
func setCounter(m *mem.Mem, worker int, word uint64) { m.Cells.Store(firstCounter+worker, word) }

// checkIn says whether a worker is in, or out, as it has to be.
func checkIn(t *testing.T, m *mem.Mem, worker int, in bool, what string) {
	t.Helper()
	if is := In(m, worker); is != in {
		t.Fatalf("%s: In(%d) = %v", what, worker, is)
	}
}

// eachWorker goes through all workers of all memories; fill gives counters to a new memory ahead of that.
func eachWorker(t *testing.T, fill func(m *mem.Mem), do func(m *mem.Mem, worker int)) {
	t.Helper()
	for workers := 1; workers <= mostWorkers; workers++ {
		for worker := range workers {
			m := newMem(t, workers)
			fill(m)
			do(m, worker)
		}
	}
}

// allOut leaves a new memory as it is.
func allOut(*mem.Mem) {}

// allIn has each worker be in, by a counter of its own.
func allIn(m *mem.Mem) {
	for worker := range m.Workers() {
		setCounter(m, worker, uint64(worker)+20)
	}
}

// P6.1: Enter loads the period, which changes nothing, then stores it in its worker's counter, and nothing else; it is in from the second step on.
func TestEnter(t *testing.T) {
	for _, fill := range []func(*mem.Mem){allOut, allIn} {
		for _, period := range trial.Words() {
			eachWorker(t, fill, func(m *mem.Mem, worker int) {
				setPeriod(m, period)
				before := trial.Look(m)
				was := before.Words[firstCounter+worker] != 0
				f := Enter(worker)
				before.Check(t, m, "Enter")
				checkIn(t, m, worker, was, "ahead of Enter's steps")
				trial.Step(t, m, f, false, "Enter's first step")
				before.Check(t, m, "Enter's first step")
				checkIn(t, m, worker, was, "between Enter's steps")
				trial.Step(t, m, f, true, "Enter's second step")
				before.Counter(worker, period).Check(t, m, "Enter's second step")
				checkIn(t, m, worker, period != 0, "behind Enter's steps")
			})
		}
	}
}

// P6.1: Enter takes 2 steps, whatever its worker's counter was.
func TestEnterSteps(t *testing.T) {
	for _, word := range trial.Words() {
		eachWorker(t, allOut, func(m *mem.Mem, worker int) {
			setCounter(m, worker, word)
			want := trial.Look(m).Counter(worker, 1)
			trial.Finish(t, m, Enter(worker), 2, "Enter")
			want.Check(t, m, "Enter")
		})
	}
}

// P6.1: what Enter stores is the period that it loaded, though that rises, or falls, ahead of its second step.
func TestEnterPeriodRises(t *testing.T) {
	for _, period := range trial.Words() {
		for _, then := range trial.Words() {
			m := newMem(t, 2)
			setPeriod(m, period)
			f := Enter(1)
			trial.Step(t, m, f, false, "Enter's first step")
			setPeriod(m, then)
			want := trial.Look(m).Counter(1, period)
			trial.Step(t, m, f, true, "Enter's second step")
			want.Check(t, m, "behind the rise of the period")
		}
	}
}

// P6.1: the period is loaded by Enter's first step, not ahead of it.
func TestEnterLoadsLate(t *testing.T) {
	m := newMem(t, 1)
	f := Enter(0)
	setPeriod(m, 8)
	f.Ready(m)
	setPeriod(m, 9)
	trial.Step(t, m, f, false, "Enter's first step")
	trial.Step(t, m, f, true, "Enter's second step")
	trial.Look(m).Counter(0, 9).Check(t, m, "Enter")
}

// P6.1: between Enter's two steps a whole Sync may be done: the worker is in by the elder period then.
func TestEnterAroundSync(t *testing.T) {
	m := newMem(t, 3)
	f := Enter(2)
	trial.Step(t, m, f, false, "Enter's first step")
	trial.Finish(t, m, Sync(0), 6, "Sync")
	checkIn(t, m, 2, false, "between Enter's steps")
	trial.Step(t, m, f, true, "Enter's second step")
	trial.Look(m).Period(2).Counter(2, 1).Check(t, m, "Enter around Sync")
	checkIn(t, m, 2, true, "behind Enter's steps")
}

// P6.1: Leave stores 0 in its worker's counter, whatever that was, and nothing else, and is done by that one step.
func TestLeave(t *testing.T) {
	for _, word := range trial.Words() {
		eachWorker(t, allIn, func(m *mem.Mem, worker int) {
			setPeriod(m, 7)
			setCounter(m, worker, word)
			before := trial.Look(m)
			f := Leave(worker)
			before.Check(t, m, "Leave")
			checkIn(t, m, worker, word != 0, "ahead of Leave's step")
			trial.Step(t, m, f, true, "Leave's step")
			before.Counter(worker, 0).Check(t, m, "Leave's step")
			checkIn(t, m, worker, false, "behind Leave's step")
			trial.Finish(t, m, Leave(worker), 1, "another Leave")
			before.Counter(worker, 0).Check(t, m, "another Leave")
		})
	}
}

// P6.1: a worker is in, if its counter isn't 0, whatever others' are; asking is no step.
func TestIn(t *testing.T) {
	for _, word := range trial.Words() {
		for _, fill := range []func(*mem.Mem){allOut, allIn} {
			eachWorker(t, fill, func(m *mem.Mem, worker int) {
				setCounter(m, worker, word)
				before := trial.Look(m)
				for range 2 {
					checkIn(t, m, worker, word != 0, "In")
					for other := range m.Workers() {
						checkIn(t, m, other, before.Words[firstCounter+other] != 0, "In of another one")
					}
				}
				before.Check(t, m, "In")
			})
		}
	}
}

// P6.1: where all stay out Sync's steps are 3, and one for each worker: the lock is taken, the period rises by 1, counters are loaded, the lock is freed.
func TestSync(t *testing.T) {
	for _, period := range trial.Words() {
		eachWorker(t, allOut, func(m *mem.Mem, worker int) {
			setPeriod(m, period)
			before := trial.Look(m)
			f := Sync(worker)
			before.Check(t, m, "Sync")
			trial.Step(t, m, f, false, "the lock's step")
			before.Holder(periodLock, worker).Check(t, m, "the lock's step")
			trial.Step(t, m, f, false, "the period's step")
			want := before.Period(period + 1)
			want.Holder(periodLock, worker).Check(t, m, "the period's step")
			for range m.Workers() {
				trial.Step(t, m, f, false, "a counter's step")
				want.Holder(periodLock, worker).Check(t, m, "a counter's step")
			}
			trial.Step(t, m, f, true, "the last step")
			want.Check(t, m, "the last step")
		})
	}
}

// P6.1: so many they are in a memory of 1 worker, and of 8, by a worker, and by a thread of a number that no worker has.
func TestSyncSteps(t *testing.T) {
	for i, steps := range []int{4, 5, 6, 7, 8, 9, 10, 11} {
		workers := i + 1
		for _, who := range []int{0, workers - 1, workers, workers + 1, 1000, math.MaxInt32, math.MaxInt} {
			m := newMem(t, workers)
			want := trial.Look(m)
			f := Sync(who)
			trial.Step(t, m, f, false, "the lock's step")
			want.Holder(periodLock, who).Check(t, m, "the lock's step")
			trial.Finish(t, m, f, steps-1, "Sync")
			want.Period(2).Check(t, m, "Sync")
		}
	}
}

// begun is a Sync that is on its way, at the counter of a worker.
func begun(t *testing.T, m *mem.Mem, who, worker int) *Wait {
	t.Helper()
	f := Sync(who)
	for range 2 + worker {
		trial.Step(t, m, f, false, "a step on the way")
	}
	return f
}

// rest has a Sync that is at the counter of a worker, and isn't stuck any more, take the steps that are left.
func rest(t *testing.T, m *mem.Mem, f *Wait, worker int, what string) {
	t.Helper()
	want := trial.Look(m).Holder(periodLock, -1)
	trial.Finish(t, m, f, m.Workers()-worker+1, what)
	want.Check(t, m, what)
}

// P6.1: at one that is in Sync isn't ready, and its steps change nothing, till that one goes out.
func TestSyncTillOut(t *testing.T) {
	eachWorker(t, allOut, func(m *mem.Mem, worker int) {
		for _, who := range []int{0, worker, m.Workers()} {
			trial.Finish(t, m, Enter(worker), 2, "Enter")
			f := begun(t, m, who, worker)
			trial.Stuck(t, m, f, "at one that is in")
			trial.Finish(t, m, Leave(worker), 1, "Leave")
			rest(t, m, f, worker, "behind its Leave")
		}
	})
}

// P6.1: or till that one has come in anew since the period rose, with going out ahead of it or without.
func TestSyncTillAnew(t *testing.T) {
	for _, out := range []bool{true, false} {
		eachWorker(t, allOut, func(m *mem.Mem, worker int) {
			trial.Finish(t, m, Enter(worker), 2, "Enter")
			f := begun(t, m, m.Workers(), worker)
			trial.Stuck(t, m, f, "at one that is in")
			if out {
				trial.Finish(t, m, Leave(worker), 1, "Leave")
			}
			again := Enter(worker)
			trial.Step(t, m, again, false, "Enter's first step")
			if f.Ready(m) != out {
				t.Fatalf("between Enter's steps Ready = %v", !out)
			}
			trial.Step(t, m, again, true, "Enter's second step")
			checkIn(t, m, worker, true, "come in anew")
			rest(t, m, f, worker, "behind its Enter")
			checkIn(t, m, worker, true, "behind Sync")
		})
	}
}

// P6.1: who comes in anew by a period that was loaded ahead of its rise is waited for, as if it had stayed in.
func TestSyncTillAnewByElder(t *testing.T) {
	eachWorker(t, allOut, func(m *mem.Mem, worker int) {
		again := Enter(worker)
		trial.Step(t, m, again, false, "Enter's first step")
		f := begun(t, m, m.Workers(), worker)
		trial.Step(t, m, again, true, "Enter's second step")
		trial.Stuck(t, m, f, "at one that is in by the elder period")
		trial.Finish(t, m, Leave(worker), 1, "Leave")
		rest(t, m, f, worker, "behind its Leave")
	})
}

// P6.1: at its own counter Sync waits, too, if the worker is in.
func TestSyncInItself(t *testing.T) {
	m := newMem(t, 3)
	trial.Finish(t, m, Enter(1), 2, "Enter")
	f := begun(t, m, 1, 1)
	trial.Stuck(t, m, f, "at its own counter")
	trial.Finish(t, m, Leave(1), 1, "Leave")
	rest(t, m, f, 1, "behind its own Leave")
}

// P6.1: workers are waited for one by one, in order; going out and coming in of others changes nothing of that.
func TestSyncOneByOne(t *testing.T) {
	m := newMem(t, mostWorkers)
	for worker := range mostWorkers {
		trial.Finish(t, m, Enter(worker), 2, "Enter")
	}
	f := begun(t, m, mostWorkers, 0)
	for worker := range mostWorkers {
		trial.Stuck(t, m, f, "at a worker that is in")
		for other := worker + 1; other < mostWorkers; other++ {
			trial.Finish(t, m, Leave(other), 1, "Leave of another one")
			trial.Stuck(t, m, f, "behind the Leave of another one")
			setCounter(m, other, 1)
		}
		trial.Finish(t, m, Leave(worker), 1, "Leave")
		trial.Step(t, m, f, false, "a counter's step")
	}
	trial.Step(t, m, f, true, "the last step")
}

// P6.1: what counts is the counter now: ready as it goes out, not any more as it comes in by an elder period; a step that came too late is taken again.
func TestSyncNow(t *testing.T) {
	m := newMem(t, 2)
	setPeriod(m, 5)
	f := begun(t, m, 0, 1)
	for _, word := range []uint64{0, 5, 6, 1, 7, 4, math.MaxUint64, 5} {
		setCounter(m, 1, word)
		if ready := f.Ready(m); ready != (word == 0 || word >= 6) {
			t.Fatalf("at the counter %d Ready = %v", word, ready)
		}
	}
	trial.Stuck(t, m, f, "at the counter 5")
	setCounter(m, 1, 0)
	rest(t, m, f, 1, "at the counter 0")
}

// P6.1: of all words a counter that is 0, or at least the period, is passed, no other one, just the period, one less and one more among them.
func TestSyncWords(t *testing.T) {
	for _, period := range trial.Words() {
		risen := period + 1
		for _, word := range append(trial.Words(), risen-2, risen-1, risen, risen+1, risen+2) {
			eachWorker(t, allOut, func(m *mem.Mem, worker int) {
				setPeriod(m, period)
				setCounter(m, worker, word)
				f := begun(t, m, 0, worker)
				if word == 0 || word >= risen {
					rest(t, m, f, worker, "at a counter that is passed")
					return
				}
				trial.Stuck(t, m, f, "at a counter that isn't passed")
				setCounter(m, worker, risen)
				rest(t, m, f, worker, "at a counter that is the period")
			})
		}
	}
}

// P6.1: behind the greatest period comes 0, which no counter is below.
func TestSyncRound(t *testing.T) {
	m := newMem(t, mostWorkers)
	setPeriod(m, math.MaxUint64)
	allIn(m)
	want := trial.Look(m).Period(0)
	trial.Finish(t, m, Sync(3), 11, "Sync")
	want.Check(t, m, "Sync")
	trial.Finish(t, m, Enter(3), 2, "Enter")
	checkIn(t, m, 3, false, "come in by the period 0")
}

// P6.1: while another one holds the lock, Sync isn't ready for its first step, and that changes nothing, whoever is in or out; other locks don't matter.
func TestSyncLockHeld(t *testing.T) {
	for _, holder := range []int{0, 1, 2, 7, 1000} {
		for _, fill := range []func(*mem.Mem){allOut, allIn} {
			m := newMem(t, 2)
			fill(m)
			for i := 1; i < m.Locks.Len(); i++ {
				m.Locks.Try(i, holder)
			}
			m.Locks.Try(periodLock, holder)
			f := Sync(1)
			trial.Stuck(t, m, f, "the lock is held")
			m.Locks.Free(periodLock, holder)
			want := trial.Look(m)
			trial.Step(t, m, f, false, "the lock's step")
			want.Holder(periodLock, 1).Check(t, m, "the lock's step")
		}
	}
}

// P6.1: it is the first step alone that the lock keeps back, and one that was ready isn't any more, if another one was first.
func TestSyncLockLate(t *testing.T) {
	m := newMem(t, 2)
	f := Sync(0)
	if !f.Ready(m) {
		t.Fatal("the lock is free, it isn't ready")
	}
	m.Locks.Try(periodLock, 1)
	trial.Stuck(t, m, f, "the lock is held by now")
	m.Locks.Free(periodLock, 1)
	trial.Finish(t, m, f, 5, "Sync")
}

// P6.1: steps that are taken whenever come to the same as those that are taken when it is ready.
func TestSyncWhenever(t *testing.T) {
	m := newMem(t, 3)
	trial.Finish(t, m, Enter(0), 2, "Enter")
	trial.Finish(t, m, Enter(2), 2, "Enter")
	m.Locks.Try(periodLock, 2)
	f := Sync(1)
	want := trial.Look(m)
	take := func(steps int, done bool, what string) {
		t.Helper()
		for i := range steps {
			if is := f.Step(m); is != (done && i == steps-1) {
				t.Fatalf("%s: Step = %v", what, is)
			}
			want.Check(t, m, what)
		}
	}
	take(5, false, "the lock is held")
	m.Locks.Free(periodLock, 2)
	want = want.Holder(periodLock, 1)
	take(1, false, "the lock's step")
	want = want.Period(2)
	take(1, false, "the period's step")
	take(5, false, "worker 0 is in")
	trial.Finish(t, m, Leave(0), 1, "Leave")
	want = want.Counter(0, 0)
	take(7, false, "worker 2 is in")
	trial.Finish(t, m, Enter(2), 2, "Enter")
	want = want.Counter(2, 2)
	take(1, false, "worker 2 came in anew")
	want = want.Holder(periodLock, -1)
	take(1, true, "the last step")
}

// P6.1: of two Syncs, one behind the other, each raises the period, and waits for those who came in ahead of it.
func TestSyncBehindSync(t *testing.T) {
	m := newMem(t, 2)
	for i := range uint64(5) {
		trial.Finish(t, m, Sync(int(i%2)), 5, "Sync")
		trial.Look(m).Period(i+2).Holder(periodLock, -1).Check(t, m, "Sync")
	}
	trial.Finish(t, m, Enter(1), 2, "Enter")
	for range 2 {
		f := begun(t, m, 0, 1)
		trial.Stuck(t, m, f, "at one that came in ahead")
		trial.Finish(t, m, Enter(1), 2, "Enter")
		rest(t, m, f, 1, "behind its Enter")
	}
	trial.Look(m).Period(8).Counter(1, 8).Check(t, m, "two more")
}

// P6.1: of two Syncs beside each other, of two workers or of one, the second isn't ready till the first has freed the lock, by its last step; then it does all its steps.
func TestSyncBesideSync(t *testing.T) {
	for _, who := range []int{0, 1, 4} {
		for ahead := 1; ahead <= 6; ahead++ {
			m := newMem(t, 4)
			one, two := Sync(who), Sync(1)
			for range ahead {
				trial.Step(t, m, one, false, "a step of the first one")
			}
			trial.Stuck(t, m, two, "the second one, beside the first")
			trial.Finish(t, m, one, 7-ahead, "the first one")
			trial.Finish(t, m, two, 7, "the second one")
			trial.Look(m).Period(3).Holder(periodLock, -1).Check(t, m, "two Syncs")
		}
	}
}

// P6.1: the second Sync waits for those who came in while the first was on its way, by the period of that one.
func TestSyncBesideSyncWaits(t *testing.T) {
	m := newMem(t, 3)
	one, two := begun(t, m, 0, 0), Sync(1)
	trial.Finish(t, m, Enter(2), 2, "Enter")
	trial.Finish(t, m, one, 4, "the first one")
	for range 4 {
		trial.Step(t, m, two, false, "a step of the second one")
	}
	trial.Stuck(t, m, two, "at one that came in by the first one's period")
	trial.Finish(t, m, Leave(2), 1, "Leave")
	rest(t, m, two, 2, "behind its Leave")
}

// P6.1, P6.2: one that comes in behind Sync's first step is waited for, if that was ahead of the rise of the period, else not.
func TestComeInBehindFirst(t *testing.T) {
	eachWorker(t, allOut, func(m *mem.Mem, worker int) {
		f := Sync(m.Workers())
		trial.Step(t, m, f, false, "the lock's step")
		trial.Finish(t, m, Enter(worker), 2, "Enter")
		trial.Step(t, m, f, false, "the period's step")
		for range worker {
			trial.Step(t, m, f, false, "a counter's step")
		}
		trial.Stuck(t, m, f, "at one that came in ahead of the rise")
		trial.Finish(t, m, Leave(worker), 1, "Leave")
		rest(t, m, f, worker, "behind its Leave")
	})
	for steps := 2; steps <= 5; steps++ {
		m := newMem(t, 3)
		f := Sync(0)
		for range steps {
			trial.Step(t, m, f, false, "a step ahead")
		}
		for worker := range 3 {
			trial.Finish(t, m, Enter(worker), 2, "Enter")
		}
		trial.Finish(t, m, f, 6-steps, "behind those who came in behind the rise")
	}
}

// P6.2: one that was passed as it was out, and then came in by an elder period, isn't waited for any more.
func TestComeInBehindItsTurn(t *testing.T) {
	m := newMem(t, 3)
	enter := Enter(0)
	trial.Step(t, m, enter, false, "Enter's first step")
	f := begun(t, m, 1, 1)
	trial.Step(t, m, enter, true, "Enter's second step")
	rest(t, m, f, 1, "behind its turn")
	trial.Look(m).Period(2).Counter(0, 1).Check(t, m, "Sync")
}

// P6.2: as long as no worker is in, and the lock is free, or its own, Sync is ready, ahead of each step, whatever steps Enters took, and whoever was in by then.
func TestSyncReady(t *testing.T) {
	m := newMem(t, 4)
	comings := []*Coming{Enter(0), Enter(1), Enter(2), Enter(3)}
	f := Sync(2)
	for i := range 7 {
		for worker, enter := range comings {
			if i%2 == 0 {
				trial.Step(t, m, enter, false, "Enter's first step")
				continue
			}
			trial.Step(t, m, enter, true, "Enter's second step")
			trial.Finish(t, m, Leave(worker), 1, "Leave")
			comings[worker] = Enter(worker)
		}
		trial.Step(t, m, f, i == 6, "Sync, with nobody in")
	}
}

// P6.1: several frames of one worker go each by its own way: what the last one of them stored counts.
func TestFramesOfOneWorker(t *testing.T) {
	m := newMem(t, 2)
	one, two := Enter(1), Enter(1)
	trial.Step(t, m, one, false, "the one's first step")
	setPeriod(m, 9)
	trial.Step(t, m, two, false, "the other's first step")
	trial.Step(t, m, two, true, "the other's second step")
	want := trial.Look(m)
	want.Counter(1, 9).Check(t, m, "the other")
	trial.Step(t, m, one, true, "the one's second step")
	want.Counter(1, 1).Check(t, m, "the one")
	three, leave := Enter(1), Leave(1)
	trial.Step(t, m, three, false, "the third's first step")
	trial.Step(t, m, leave, true, "Leave's step")
	checkIn(t, m, 1, false, "behind Leave")
	trial.Step(t, m, three, true, "the third's second step")
	want.Counter(1, 9).Check(t, m, "the third")
	trial.Finish(t, m, Leave(1), 1, "another Leave")
	want.Counter(1, 0).Check(t, m, "another Leave")
}

// P6.1: a lock that the worker has by another one than this Sync isn't free.
func TestSyncLockOfItsWorker(t *testing.T) {
	m := newMem(t, 2)
	m.Locks.Try(periodLock, 1)
	f := Sync(1)
	trial.Stuck(t, m, f, "the lock is held by its worker")
	m.Locks.Free(periodLock, 1)
	trial.Finish(t, m, f, 5, "Sync")
}

// R6: of numbers that no worker has all calls end, and don't panic; a Sync of a number below 0, which can have no lock, is never ready.
func TestNotWorkers(t *testing.T) {
	for _, worker := range trial.NotWorkers() {
		for workers := 1; workers <= mostWorkers; workers++ {
			m := newMem(t, workers)
			for _, f := range []mem.Frame{Enter(worker), Leave(worker), Sync(worker)} {
				for range 4 {
					f.Ready(m)
					f.Step(m)
				}
				In(m, worker)
			}
			if worker < 0 && Sync(worker).Ready(newMem(t, workers)) {
				t.Errorf("of %d workers Sync(%d) is ready", workers, worker)
			}
		}
	}
}

// R1: steps behind the last one don't panic.
func TestStepBehindEnd(t *testing.T) {
	m := newMem(t, 2)
	for _, f := range []mem.Frame{Enter(0), Leave(0), Sync(1)} {
		for range 20 {
			f.Ready(m)
			f.Step(m)
		}
	}
}

// The document's example: of two workers, of which one is in, Sync takes its lock, adds 1, and isn't ready at that one's counter, till it goes out.
func TestExample(t *testing.T) {
	m, _ := mem.New(1, 2)
	trial.Finish(t, m, Enter(0), 2, "Enter")
	f := Sync(1)
	if n, done := mem.Finish(m, f, 99); n != 2 || done {
		t.Fatalf("Finish = %d, %v", n, done)
	}
	if period, _ := m.Cells.Load(mem.Period); period != 2 || m.Locks.Holder(mem.PeriodLock) != 1 {
		t.Fatalf("the period is %d, the holder %d", period, m.Locks.Holder(mem.PeriodLock))
	}
	trial.Stuck(t, m, f, "at the one that is in")
	trial.Finish(t, m, Leave(0), 1, "Leave")
	trial.Finish(t, m, f, 3, "Sync")
}
