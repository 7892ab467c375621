package retire

import (
	"math"
	"slices"
	"testing"

	"quietus/api"
	"quietus/arena"
	"quietus/mem"
	"quietus/qsbr"
	"quietus/trial"
)

// These are written out, so that the tests don't lean on the names that they hold.
const (
	mostWorkers  = 8
	mostNodes    = 1024
	periodCell   = 0
	firstCounter = 2
	periodLock   = 0
	// around are a drain's steps beside those for workers and handles: it takes, takes the lock, raises the period, frees the lock.
	around = 4
	// far is how far apart the handles of one place are, from one generation to the next.
	far = 65536
)

// A drain is a frame.
var _ mem.Frame = (*Drain)(nil)

// newMem is a memory in which all stay out, with one node that is reached, and locks that are held, so that it is to be seen if they are touched.
func newMem(t *testing.T, room, workers int) *mem.Mem {
	t.Helper()
	m, e := mem.New(room, workers)
	if m == nil || e != api.OK {
		t.Fatalf("mem.New(%d, %d) = %v, %v", room, workers, m, e)
	}
	h, _ := m.Arena.Alloc(arena.Node{Key: "k", Val: "v"})
	m.Cells.Store(m.Now().Base, uint64(h))
	m.Locks.Try(mem.ResizeLock, 0)
	m.Locks.Try(2, workers-1)
	return m
}

// nodes takes so many nodes.
func nodes(t *testing.T, m *mem.Mem, n int) []arena.Handle {
	t.Helper()
	var l []arena.Handle
	for range n {
		h, e := m.Arena.Alloc(arena.Node{Key: "w"})
		if e != api.OK {
			t.Fatalf("Alloc = %d, %v", h, e)
		}
		l = append(l, h)
	}
	return l
}

// retire has handles wait.
func retire(m *mem.Mem, l []arena.Handle) {
	for _, h := range l {
		m.Retire(h)
	}
}

// waitingMem is a memory in which so many nodes wait, in an order that isn't that of their places.
func waitingMem(t *testing.T, n, workers int) (*mem.Mem, []arena.Handle) {
	t.Helper()
	m := newMem(t, n+3, workers)
	l := nodes(t, m, n)
	slices.Reverse(l[n/2:])
	slices.Reverse(l[:n/2+1])
	retire(m, l)
	return m, l
}

// stuck has a drain take steps for which it isn't ready: nothing comes of them.
func stuck(t *testing.T, m *mem.Mem, d *Drain, what string) {
	t.Helper()
	left := d.Left()
	trial.Stuck(t, m, d, what)
	checkLeft(t, d, left, what)
}

// checkLeft says whether those that are left are those that have to be.
func checkLeft(t *testing.T, d *Drain, want []arena.Handle, what string) {
	t.Helper()
	if is := d.Left(); !slices.Equal(is, want) {
		t.Fatalf("%s: Left = %v, not %v", what, is, want)
	}
}

// P7.1: a drain with none that wait isn't ready, whatever else is, and its steps change nothing; it is ready as soon as one waits.
func TestNoneWait(t *testing.T) {
	for workers := 1; workers <= mostWorkers; workers++ {
		m := newMem(t, 5, workers)
		l := nodes(t, m, 2)
		before := trial.Look(m)
		d := New(workers)
		before.Check(t, m, "New")
		checkLeft(t, d, nil, "New")
		stuck(t, m, d, "none wait")
		trial.Finish(t, m, qsbr.Enter(0), 2, "Enter")
		stuck(t, m, d, "none wait, one is in")
		m.Retire(l[1])
		if !d.Ready(m) {
			t.Fatal("one waits, it isn't ready")
		}
		m.Take()
		stuck(t, m, d, "it was taken by another one")
		m.Retire(l[1])
		before = trial.Look(m)
		trial.Step(t, m, d, false, "one waits")
		before.Wait().Check(t, m, "taken")
		checkLeft(t, d, l[1:], "taken")
	}
}

// P7.1: it takes those that wait when its first step is taken, not those that did when it was made, or asked.
func TestTakesLate(t *testing.T) {
	m := newMem(t, 9, 2)
	l := nodes(t, m, 5)
	retire(m, l[:1])
	d := New(2)
	m.Take()
	retire(m, l[1:2])
	if !d.Ready(m) {
		t.Fatal("one waits, it isn't ready")
	}
	m.Take()
	retire(m, l[2:])
	before := trial.Look(m)
	trial.Step(t, m, d, false, "the first step")
	before.Wait().Check(t, m, "the first step")
	checkLeft(t, d, l[2:], "the first step")
}

// drained has a drain take all its steps, with nobody in, and looks at the memory and at what is left ahead of each and behind it.
func drained(t *testing.T, m *mem.Mem, who int, l []arena.Handle) {
	t.Helper()
	d := New(who)
	want := trial.Look(m)
	checkLeft(t, d, nil, "ahead of the first step")
	take := func(done bool, what string) {
		t.Helper()
		trial.Step(t, m, d, done, what)
		want.Check(t, m, what)
		checkLeft(t, d, l, what)
	}
	want = want.Wait()
	take(false, "the first step")
	want = want.Holder(periodLock, who)
	take(false, "the lock's step")
	want = want.Period(want.Words[periodCell] + 1)
	take(false, "the period's step")
	for range m.Workers() {
		take(false, "a counter's step")
	}
	want = want.Holder(periodLock, -1)
	take(false, "the lock's other step")
	for len(l) > 0 {
		want, l = want.Freed(l[0]), l[1:]
		take(len(l) == 0, "a step that frees")
	}
}

// P7.1: of one handle and of many, of 1 worker to 8, each step does what the chapter says, and nothing else: all are taken, the wait's steps follow, each is freed, in order; Left tells those that were taken, and aren't freed.
func TestSteps(t *testing.T) {
	for workers := 1; workers <= mostWorkers; workers++ {
		for n := 1; n <= 12; n++ {
			m, l := waitingMem(t, n, workers)
			drained(t, m, workers, l)
		}
	}
	m, l := waitingMem(t, mostNodes-3, 2)
	drained(t, m, 2, l)
}

// P7.1: a drain takes one step, a Sync's, and one for each handle, whatever number it has that can have a lock, a worker's too.
func TestHowMany(t *testing.T) {
	for workers := 1; workers <= mostWorkers; workers++ {
		for _, who := range append(trial.NotWorkers(), 0, workers-1, workers) {
			if who < 0 {
				continue
			}
			m, l := waitingMem(t, 3, workers)
			trial.Finish(t, m, New(who), around+workers+len(l), "a drain")
			m, l = waitingMem(t, 4, workers)
			drained(t, m, who, l)
		}
	}
}

// P7.1: New takes no step, and two drains know nothing of each other.
func TestNewAlone(t *testing.T) {
	m, l := waitingMem(t, 3, 2)
	before := trial.Look(m)
	one, two := New(2), New(2)
	before.Check(t, m, "two New")
	trial.Step(t, m, one, false, "the first step")
	checkLeft(t, one, l, "the one")
	checkLeft(t, two, nil, "the other")
	stuck(t, m, two, "none wait for the other")
}

// P7.1: two memories are drained apart.
func TestTwoMemories(t *testing.T) {
	m, l := waitingMem(t, 3, 2)
	o, k := waitingMem(t, 5, 4)
	one, two := New(2), New(4)
	wantM, wantO := trial.Look(m), trial.Look(o)
	for range 6 {
		trial.Step(t, m, one, false, "the one")
		trial.Step(t, o, two, false, "the other")
	}
	checkLeft(t, one, l, "the one")
	checkLeft(t, two, k, "the other")
	trial.Finish(t, m, one, 3, "the one")
	trial.Finish(t, o, two, 7, "the other")
	for _, h := range l {
		wantM = wantM.Freed(h)
	}
	for _, h := range k {
		wantO = wantO.Freed(h)
	}
	wantM.Wait().Period(2).Check(t, m, "the one")
	wantO.Wait().Period(2).Check(t, o, "the other")
}

// spoil changes a list that was handed out, and what is in the room behind its end.
func spoil(l []arena.Handle) {
	for i := range l {
		l[i] = 1
	}
	clear(append(l, 1, 2, 3))
}

// P7.1: what Left hands out is a copy, ahead of each step and behind it: a change of it changes nothing, and none shares memory with another one; it stays as it is while the drain goes on.
func TestLeftIsCopy(t *testing.T) {
	m, l := waitingMem(t, 6, 2)
	d := New(2)
	want := trial.Look(m)
	var kept, first []arena.Handle
	for i := range around + 2 + 6 {
		kept = d.Left()
		same := slices.Clone(kept)
		other := d.Left()
		spoil(other)
		if !slices.Equal(kept, same) {
			t.Fatalf("ahead of step %d: what was handed out shares memory: %v, %v", i, kept, same)
		}
		checkLeft(t, d, same, "behind a change")
		trial.Step(t, m, d, i == around+2+5, "a step")
		if !slices.Equal(kept, same) {
			t.Fatalf("behind step %d what was handed out ahead of it is %v, not %v", i, kept, same)
		}
		spoil(kept)
		if i == 0 {
			first = d.Left()
		}
	}
	if !slices.Equal(first, l) {
		t.Fatalf("what was handed out first is %v, not %v", first, l)
	}
	for _, h := range l {
		want = want.Freed(h)
	}
	want.Wait().Period(2).Check(t, m, "a drain")
	checkLeft(t, d, nil, "a drain")
	spoil(d.Left())
	checkLeft(t, d, nil, "a drain, behind a change")
}

// P7.1: what comes to wait behind the first step stays waiting, in order, and isn't freed; another drain takes it.
func TestComesToWait(t *testing.T) {
	m := newMem(t, 40, 3)
	l := nodes(t, m, 3)
	retire(m, l)
	d := New(3)
	trial.Step(t, m, d, false, "the first step")
	var late []arena.Handle
	for i := range around - 1 + 3 + 3 {
		late = append(late, nodes(t, m, 2)...)
		retire(m, late[2*i:])
		trial.Step(t, m, d, i == around+4, "a step, one comes to wait ahead of it")
		checkLeft(t, d, l[max(0, i-5):], "one came to wait")
		if is := trial.Look(m).Waiting; !slices.Equal(is, late) {
			t.Fatalf("%v wait, not %v", is, late)
		}
	}
	for _, h := range late {
		if !m.Arena.Live(h) {
			t.Fatalf("the handle %d, which came to wait, is freed", h)
		}
	}
	drained(t, m, 3, late)
}

// eachWorker goes through all workers of all memories, with three that wait.
func eachWorker(t *testing.T, do func(m *mem.Mem, l []arena.Handle, worker int)) {
	t.Helper()
	for workers := 1; workers <= mostWorkers; workers++ {
		for worker := range workers {
			m, l := waitingMem(t, 3, workers)
			do(m, l, worker)
		}
	}
}

// P7.1, P7.2: a worker that is in when they are taken keeps all of them from being freed, till it goes out.
func TestTillOut(t *testing.T) {
	eachWorker(t, func(m *mem.Mem, l []arena.Handle, worker int) {
		trial.Finish(t, m, qsbr.Enter(worker), 2, "Enter")
		d := New(m.Workers())
		before := trial.Look(m)
		trial.Ahead(t, m, d, 3+worker, "a step ahead")
		stuck(t, m, d, "at one that is in")
		before.Wait().Holder(periodLock, m.Workers()).Period(2).Check(t, m, "at one that is in")
		checkLeft(t, d, l, "at one that is in")
		trial.Finish(t, m, qsbr.Leave(worker), 1, "Leave")
		checkLeft(t, d, l, "behind its Leave")
		trial.Finish(t, m, d, m.Workers()-worker+1+len(l), "behind its Leave")
	})
}

// P7.1, P7.2: or till it has come in anew, with going out ahead of that or without.
func TestTillAnew(t *testing.T) {
	for _, out := range []bool{true, false} {
		eachWorker(t, func(m *mem.Mem, l []arena.Handle, worker int) {
			trial.Finish(t, m, qsbr.Enter(worker), 2, "Enter")
			d := New(m.Workers())
			trial.Ahead(t, m, d, 3+worker, "a step ahead")
			stuck(t, m, d, "at one that is in")
			if out {
				trial.Finish(t, m, qsbr.Leave(worker), 1, "Leave")
			}
			again := qsbr.Enter(worker)
			trial.Step(t, m, again, false, "Enter's first step")
			if d.Ready(m) != out {
				t.Fatalf("between Enter's steps Ready = %v", !out)
			}
			trial.Step(t, m, again, true, "Enter's second step")
			checkLeft(t, d, l, "behind its Enter")
			trial.Finish(t, m, d, m.Workers()-worker+1+len(l), "behind its Enter")
			if !qsbr.In(m, worker) {
				t.Fatal("it isn't in any more")
			}
		})
	}
}

// P7.2: who came in anew ahead of the period's rise, by the elder period, keeps them yet.
func TestAnewByElder(t *testing.T) {
	eachWorker(t, func(m *mem.Mem, l []arena.Handle, worker int) {
		again := qsbr.Enter(worker)
		trial.Step(t, m, again, false, "Enter's first step")
		d := New(m.Workers())
		trial.Ahead(t, m, d, 2, "a step ahead")
		trial.Step(t, m, again, true, "Enter's second step")
		trial.Ahead(t, m, d, 1+worker, "a step ahead")
		stuck(t, m, d, "at one that is in by the elder period")
		checkLeft(t, d, l, "at one that is in by the elder period")
		trial.Finish(t, m, qsbr.Leave(worker), 1, "Leave")
		trial.Finish(t, m, d, m.Workers()-worker+1+len(l), "behind its Leave")
	})
}

// P7.2: all that were in are waited for, one by one, in order, and nothing is freed till the last one has gone.
func TestAllIn(t *testing.T) {
	m, l := waitingMem(t, 2, mostWorkers)
	for worker := range mostWorkers {
		trial.Finish(t, m, qsbr.Enter(worker), 2, "Enter")
	}
	d := New(mostWorkers)
	trial.Ahead(t, m, d, 3, "a step ahead")
	for worker := range mostWorkers {
		stuck(t, m, d, "at one that is in")
		checkLeft(t, d, l, "at one that is in")
		trial.Finish(t, m, qsbr.Leave(worker), 1, "Leave")
		trial.Step(t, m, d, false, "a counter's step")
	}
	trial.Finish(t, m, d, 1+len(l), "behind all Leaves")
}

// P7.1, P7.2: a worker that comes in behind the rise of the period keeps none from being freed, wherever the drain is, and whether it was in ahead of that or not.
func TestComesInBehind(t *testing.T) {
	for steps := 3; steps < around+3+2; steps++ {
		for _, was := range []bool{false, true} {
			m, _ := waitingMem(t, 2, 3)
			d := New(3)
			trial.Ahead(t, m, d, 2, "a step ahead")
			if was {
				// By the elder period, ahead of the rise, and out again behind it.
				trial.Finish(t, m, qsbr.Enter(0), 2, "Enter")
			}
			trial.Step(t, m, d, false, "the period's step")
			if was {
				trial.Finish(t, m, qsbr.Leave(0), 1, "Leave")
			}
			trial.Ahead(t, m, d, steps-3, "a step ahead")
			for worker := range 3 {
				trial.Finish(t, m, qsbr.Enter(worker), 2, "Enter")
			}
			want := trial.Look(m)
			trial.Finish(t, m, d, around+3+2-steps, "behind those who came in")
			if is := trial.Look(m); !slices.Equal(is.Words, want.Words) || is.Free != 5-1 {
				t.Fatalf("of %v a drain made %v", want, is)
			}
		}
	}
}

// P7.1: one that comes in between the first step and the rise of the period is waited for, as layer 6's wait has it.
func TestComesInBetween(t *testing.T) {
	for steps := 1; steps <= 2; steps++ {
		m, l := waitingMem(t, 2, 2)
		d := New(2)
		trial.Ahead(t, m, d, steps, "a step ahead")
		trial.Finish(t, m, qsbr.Enter(1), 2, "Enter")
		trial.Ahead(t, m, d, 4-steps, "a step behind its Enter")
		stuck(t, m, d, "at one that came in ahead of the rise")
		trial.Finish(t, m, qsbr.Leave(1), 1, "Leave")
		trial.Finish(t, m, d, 2+len(l), "behind its Leave")
	}
}

// P7.1: while another one holds the period's lock they are taken, but the drain isn't ready for the step behind that; other locks don't matter.
func TestLockHeld(t *testing.T) {
	for _, holder := range []int{0, 1, 2, 3, 7, 1000} {
		m, l := waitingMem(t, 2, 2)
		for i := 1; i < m.Locks.Len(); i++ {
			m.Locks.Try(i, holder)
		}
		m.Locks.Try(periodLock, holder)
		d := New(2)
		trial.Step(t, m, d, false, "the first step")
		checkLeft(t, d, l, "the first step")
		stuck(t, m, d, "the lock is held")
		m.Locks.Free(periodLock, holder)
		want := trial.Look(m)
		trial.Step(t, m, d, false, "the lock's step")
		want.Holder(periodLock, 2).Check(t, m, "the lock's step")
		trial.Finish(t, m, d, around-2+2+len(l), "behind the lock's step")
	}
}

// P7.1: one drain behind the other: each takes what came to wait since the one ahead of it took.
func TestDrainBehindDrain(t *testing.T) {
	m := newMem(t, 8, 2)
	for i := range 6 {
		l := nodes(t, m, 1+i)
		retire(m, l)
		drained(t, m, 2, l)
		stuck(t, m, New(2), "none wait any more")
	}
	if is := trial.Look(m); is.Free != 7 || is.Fault || is.Words[periodCell] != 7 {
		t.Fatalf("behind six drains the memory is %v", is)
	}
}

// P7.1: of two drains beside each other each has its own; the second isn't ready for the lock's step, till the first has freed the lock, then it goes on, while the first frees.
func TestDrainBesideDrain(t *testing.T) {
	for steps := 2; steps <= 5; steps++ {
		m := newMem(t, 9, 2)
		l := nodes(t, m, 5)
		retire(m, l[:3])
		want := trial.Look(m)
		one, two := New(2), New(3)
		trial.Ahead(t, m, one, steps, "a step of the first one")
		stuck(t, m, two, "none wait")
		retire(m, l[3:])
		trial.Step(t, m, two, false, "the second one's first step")
		checkLeft(t, one, l[:3], "the first one")
		checkLeft(t, two, l[3:], "the second one")
		stuck(t, m, two, "the lock is held")
		trial.Ahead(t, m, one, around+2-steps, "a step of the first one")
		trial.Ahead(t, m, two, around-1+2, "a step of the second one")
		for i, h := range l[:2] {
			trial.Ahead(t, m, one, 1, "a step of the first one")
			want = want.Freed(h)
			trial.Step(t, m, two, i == 1, "a step of the second one")
			want = want.Freed(l[3+i])
			want.Wait().Period(3).Check(t, m, "both free")
			checkLeft(t, one, l[i+1:3], "the first one")
			checkLeft(t, two, l[4+i:], "the second one")
		}
		trial.Finish(t, m, one, 1, "the first one")
		want.Freed(l[2]).Wait().Period(3).Check(t, m, "both are done")
	}
}

// P7.2: the second of two drains waits for those who came in while the first was on its way.
func TestDrainBesideDrainWaits(t *testing.T) {
	m := newMem(t, 9, 2)
	l := nodes(t, m, 4)
	retire(m, l[:2])
	one, two := New(2), New(3)
	trial.Ahead(t, m, one, 3, "a step of the first one")
	trial.Finish(t, m, qsbr.Enter(1), 2, "Enter")
	retire(m, l[2:])
	trial.Step(t, m, two, false, "the second one's first step")
	trial.Finish(t, m, one, around+2+2-3, "the first one")
	trial.Ahead(t, m, two, 3, "a step of the second one")
	stuck(t, m, two, "at one that came in by the first one's period")
	checkLeft(t, two, l[2:], "the second one")
	trial.Finish(t, m, qsbr.Leave(1), 1, "Leave")
	trial.Finish(t, m, two, 2+2, "the second one")
}

// P7.1: handles that wait and are stale, 0, of no place, or wait twice, are taken, told by Left and freed as all others, each by one step, in order; the arena's flag is up from that step on, no place is freed twice, and none that was taken anew.
func TestWrongHandles(t *testing.T) {
	for workers := 1; workers <= mostWorkers; workers++ {
		m := newMem(t, 7, workers)
		l := nodes(t, m, 4)
		stale := l[1]
		m.Arena.Free(stale)
		m.Arena.Alloc(arena.Node{Key: "anew"})
		all := []arena.Handle{l[0], l[2], l[0], 0, stale, l[3], 6, 7, 8, 9, 65536, math.MaxUint64, 1 << 63, l[2], 0}
		retire(m, all)
		drained(t, m, workers, all)
		if is := trial.Look(m); !is.Fault || !slices.Equal(is.Live(), []arena.Handle{1, 3 + far}) {
			t.Fatalf("of wrong handles the memory came to be %v", is)
		}
		for _, wrong := range []arena.Handle{0, stale, l[0], 1 << 40, math.MaxUint64} {
			m.Retire(wrong)
			drained(t, m, workers, []arena.Handle{wrong})
		}
	}
}

// P7.1: a wrong handle that waits alone has the flag up by its own step alone, not ahead of it.
func TestWrongHandleAlone(t *testing.T) {
	for _, wrong := range []arena.Handle{0, 2, 9, 65536, math.MaxUint64} {
		m := newMem(t, 3, 2)
		m.Retire(wrong)
		d := New(2)
		trial.Ahead(t, m, d, around+2, "a step ahead")
		if m.Arena.Fault() {
			t.Fatalf("of the handle %d the flag is up ahead of its step", wrong)
		}
		checkLeft(t, d, []arena.Handle{wrong}, "ahead of its step")
		trial.Step(t, m, d, true, "its step")
		if !m.Arena.Fault() || m.Arena.Spare() != 2 {
			t.Fatalf("of the handle %d the flag is up: %v, free are %d", wrong, m.Arena.Fault(), m.Arena.Spare())
		}
	}
}

// P7.1: what somebody else freed, and what came to be live, between the first step and a handle's own, is looked at by that step alone.
func TestFreedMeanwhile(t *testing.T) {
	m := newMem(t, 4, 1)
	l := nodes(t, m, 2)
	retire(m, append(slices.Clone(l), l[1]+far))
	d := New(1)
	trial.Ahead(t, m, d, around+1+1, "a step ahead")
	m.Arena.Free(l[1])
	m.Arena.Alloc(arena.Node{})
	m.Arena.Alloc(arena.Node{})
	want := trial.Look(m)
	trial.Step(t, m, d, false, "one that was freed meanwhile")
	want = want.Freed(l[1])
	want.Check(t, m, "one that was freed meanwhile")
	trial.Step(t, m, d, true, "one that came to be live meanwhile")
	want.Freed(l[1]+far).Check(t, m, "one that came to be live meanwhile")
}

// P7.1: of counters and a period that hold whatever words a drain goes by a counter that is 0, or at least the period that it made, and by no other one.
func TestWords(t *testing.T) {
	for _, period := range trial.Words() {
		risen := period + 1
		for _, word := range append(trial.Words(), risen-1, risen, risen+1) {
			m, l := waitingMem(t, 2, 2)
			m.Cells.Store(periodCell, period)
			m.Cells.Store(firstCounter+1, word)
			d := New(2)
			trial.Ahead(t, m, d, 4, "a step ahead")
			if word != 0 && word < risen {
				stuck(t, m, d, "at a counter that isn't passed")
				checkLeft(t, d, l, "at a counter that isn't passed")
				m.Cells.Store(firstCounter+1, risen)
			}
			trial.Finish(t, m, d, 2+len(l), "at a counter that is passed")
			if is := trial.Look(m); is.Words[periodCell] != risen || is.Free != 4 || is.Fault {
				t.Fatalf("of the period %d and the counter %d came %v", period, word, is)
			}
		}
	}
}

// P7.1: of a number below 0, which can have no lock, they are taken, but none is freed; all calls end.
func TestBelowWorkers(t *testing.T) {
	for _, who := range trial.NotWorkers() {
		if who >= 0 {
			continue
		}
		m, l := waitingMem(t, 3, 2)
		d := New(who)
		trial.Step(t, m, d, false, "the first step")
		stuck(t, m, d, "no lock is to be had")
		checkLeft(t, d, l, "no lock is to be had")
	}
}

// R1: steps behind the last one don't panic, and free nothing more.
func TestStepBehindEnd(t *testing.T) {
	m, _ := waitingMem(t, 3, 2)
	d := New(2)
	for range around + 2 + 3 + 9 {
		d.Ready(m)
		d.Step(m)
	}
	if is := trial.Look(m); is.Free != 5 || is.Fault {
		t.Fatalf("behind the end the memory is %v", is)
	}
}

// The chapter's example: with one handle that waits, and no worker in, of two workers: 7 steps.
func TestExample(t *testing.T) {
	m, _ := mem.New(1, 2)
	h, _ := m.Arena.Alloc(arena.Node{})
	m.Retire(h)
	if n, done := mem.Finish(m, New(2), 99); n != 7 || !done || m.Arena.Live(h) || m.Arena.Spare() != 1 {
		t.Fatalf("Finish = %d, %v", n, done)
	}
}
