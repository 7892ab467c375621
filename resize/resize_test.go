package resize

import (
	"fmt"
	"math"
	"math/bits"
	"slices"
	"testing"

	"quietus/api"
	"quietus/arena"
	"quietus/beside"
	"quietus/del"
	"quietus/mem"
	"quietus/put"
	"quietus/trial"
)

// P15.1, P15.2: from each number of buckets to each other one, and to the same one, of tables without keys, with one, and with many, each step does what the chapter says, and nothing else: the locks are taken, there are as many turns as are needed, and the locks are freed; it comes to the size, with all keys, and no table but those of its turns is made.
func TestEachStep(t *testing.T) {
	for n := 1; n <= 16; n *= 2 {
		for size := 1; size <= 16; size *= 2 {
			for _, length := range []int{0, 1, 4} {
				resizes(t, 1, 0, size, trial.KeysByTurns(n, length))
			}
			one := make([][]string, n)
			one[n-1] = trial.KeysOf(n-1, n, 1)
			resizes(t, 2, 1, size, one)
		}
	}
}

// P15.1, P15.2: the same of any number of workers, by any of them.
func TestEachWorker(t *testing.T) {
	for workers := 1; workers <= mostWorkers; workers++ {
		for worker := range workers {
			for _, sizes := range [][2]int{{2, 2}, {1, 4}, {8, 2}} {
				resizes(t, workers, worker, sizes[1], trial.KeysByTurns(sizes[0], 3))
			}
		}
	}
}

// someKeys are the first of all keys, so many of them.
func someKeys(count int) [][]string { return [][]string{beside.ManyKeys()[:count]} }

// P15.1, P15.2: from each number of buckets that may be to each other one, and to the same one, by as many steps as the chapter says, of tables without keys, with one, and with many.
func TestEachSize(t *testing.T) {
	for i, n := range trial.Powers() {
		for j, size := range trial.Powers() {
			count := []int{0, 1, 60}[(i+2*j)%3]
			keys := trial.Spread(someKeys(count), n)
			m := trial.FreeTable(t, 2, keys)
			before := trial.Look(m)
			if took, want := finish(t, m, 1, size), stepsOf(t, 2, size, keys); took != want {
				t.Fatalf("of %d keys, from %d to %d, it takes %d steps, not %d", count, n, size, took, want)
			}
			trial.CheckTable(t, m, resized(keys, size))
			nobodyHolds(t, m, "resized")
			made(t, m, before, size)
		}
	}
}

// P15.1: to the N that there is it takes ten steps: five locks are taken, and freed, and nothing else is changed, whatever the table has.
func TestTenSteps(t *testing.T) {
	for _, n := range trial.Powers() {
		keys := trial.Spread(someKeys(40), n)
		m := trial.FreeTable(t, 8, keys)
		before := trial.Look(m)
		trial.Finish(t, m, New(3, n), 10, "to the N that there is")
		before.Check(t, m, "to the N that there is")
	}
}

// P15.2: of as many nodes as there can be, from one bucket to the most, and back, all of them are there.
func TestMostNodes(t *testing.T) {
	m, _ := mem.New(mostNodes, 2)
	var all []string
	for i := range mostNodes {
		all = append(all, fmt.Sprint("n", i))
	}
	keys := [][]string{all}
	trial.LayTable(t, m, keys)
	for _, size := range []int{mostBuckets, 1, 64} {
		finish(t, m, 0, size)
		keys = resized(keys, size)
		trial.CheckTable(t, m, keys)
	}
}

// P15.2: one after the other, by whichever worker, each key of whatever kind is found behind each, and one that isn't there isn't.
func TestAgainAndAgain(t *testing.T) {
	for seed := range uint32(10) {
		next := trial.Picker(seed)
		m, _ := mem.New(200, mostWorkers)
		keys := [][]string{beside.ManyKeys()}
		trial.LayTable(t, m, keys)
		for range 15 {
			size := trial.Powers()[next(10)]
			finish(t, m, next(mostWorkers), size)
			keys = resized(keys, size)
			beside.AllGot(t, m, keys, "resized again and again")
		}
	}
}

// change has a worker put a key in, or take one out, of few keys, and has what keys have be told.
func change(t *testing.T, m *mem.Mem, next func(n int) int, vals map[string]string) {
	t.Helper()
	key, worker := fmt.Sprint(next(12)), next(m.Workers())
	var f mem.Frame = del.New(worker, key)
	if next(3) == 0 {
		delete(vals, key)
	} else {
		vals[key] = fmt.Sprint(key, "is", next(1000))
		f = put.New(worker, key, vals[key])
	}
	if _, done := mem.Finish(m, f, most); !done {
		t.Fatalf("of the key %q it isn't done", key)
	}
}

// P15.2, W5: one after the other, with puts and dels between them, by whichever worker, each key has what it has to, whatever the number of buckets; a wrong size changes nothing of that.
func TestBetweenChanges(t *testing.T) {
	for seed := range uint32(40) {
		next := trial.Picker(seed)
		m, _ := mem.New(100, 1+next(mostWorkers))
		vals := map[string]string{}
		for range 60 {
			switch i := next(8); {
			case i == 0:
				trial.Fails(t, m, New(next(m.Workers()), 3*trial.Powers()[next(6)]), api.ErrSize, "a wrong size")
			case i < 4:
				finish(t, m, next(m.Workers()), trial.Powers()[next(6)])
			default:
				change(t, m, next, vals)
			}
			for i := range 12 {
				key := fmt.Sprint(i)
				val, had := vals[key]
				if is, ok := trial.ValOf(m, key); is != val || ok != had {
					t.Fatalf("the key %q has %q, %v, not %q, %v", key, is, ok, val, had)
				}
			}
			if reach := m.Reach(); len(reach) != len(vals) || len(reach)+m.Waiting()+m.Arena.Spare() != 100 || m.Arena.Fault() {
				t.Fatalf("of %d keys %v are reached, %d wait, %d are free", len(vals), reach, m.Waiting(), m.Arena.Spare())
			}
		}
	}
}

// wrongSizes are numbers of buckets that may not be: at the edges, below 0, and such whose low half alone would do.
func wrongSizes() []int {
	l := []int{
		0, 3, 5, 6, 7, 9, 12, 24, 100, 65535, 65537, 98304, 131071, 131072, 131073, 1 << 20, 1 << 30,
		-1, -2, -3, -4, -8, -65536, -65537, -131072,
		math.MaxInt32, math.MinInt32, math.MaxInt, math.MaxInt - 1, math.MinInt, math.MinInt + 1, math.MinInt + 2,
	}
	if bits.UintSize == 64 {
		high := 1 << (bits.UintSize / 2)
		l = append(l, high, high+1, high+2, high+8, high+65536, high<<1, high<<30, -high, 1-high, 8-high)
	}
	for _, n := range trial.Powers()[2:] {
		l = append(l, n-1, n+1)
	}
	return l
}

// P15.1: of a size that is no such power it is size, in one step, for which it is ready whatever locks are held, by whomever, and nothing is changed, whatever the table is, and whoever its worker.
func TestWrongSize(t *testing.T) {
	for _, size := range wrongSizes() {
		for _, worker := range []int{0, 1, 2, -1, math.MinInt, math.MaxInt} {
			for _, holder := range []int{-1, 0, 1, somebody} {
				m := trial.FreeTable(t, 2, trial.KeysByTurns(4, 2))
				for lock := range m.Locks.Len() {
					m.Locks.Try(lock, holder)
				}
				trial.Fails(t, m, New(worker, size), api.ErrSize, fmt.Sprintf("to %d", size))
				trial.Finish(t, m, New(worker, size), 1, fmt.Sprintf("to %d", size))
			}
		}
	}
}

// P15.1: the same with no room for cells, with readers who are in, and with a number in cell 1 of which there is no table.
func TestWrongSizeWhatever(t *testing.T) {
	m := trial.FreeTable(t, 3, trial.KeysByTurns(2, 2))
	m.Cells.Store(firstCounter+1, 1)
	m.Cells.Grow(mostCells - m.Cells.Len())
	m.Cells.Store(currentCell, 9)
	for _, size := range wrongSizes() {
		r := New(0, size)
		if ready, e := r.Ready(m), r.Err(); !ready || e != api.OK {
			t.Fatalf("to %d: Ready = %v, Err = %v", size, ready, e)
		}
		if n, done := mem.Finish(m, r, most); n != 1 || !done || r.Err() != api.ErrSize {
			t.Fatalf("to %d: Finish = %d, %v, Err = %v", size, n, done, r.Err())
		}
	}
	if number, _ := m.Cells.Load(currentCell); number != 9 || m.Locks.Holder(resizeLock) != -1 {
		t.Fatalf("the number is %d", number)
	}
}

// changes are what a resize of a memory changes, in the order in which it does, but nodes.
func changes(m *mem.Mem, r *Resize) []string {
	var l []string
	for done := false; !done; {
		before := trial.Look(m)
		done = r.Step(m)
		after := trial.Look(m)
		if n := len(before.Tables); len(after.Tables) > n {
			l = append(l, fmt.Sprintf("table of %d", after.Tables[n].N))
		}
		if number := after.Words[currentCell]; before.Words[currentCell] != number {
			l = append(l, fmt.Sprintf("%d counts", number))
		}
		for lock, holder := range before.Holders {
			if after.Holders[lock] != holder {
				l = append(l, fmt.Sprintf("lock %d has %d", lock, after.Holders[lock]))
			}
		}
	}
	return l
}

// P15.1: the order of its doings, written out: the resizer's lock, and the writers' locks, 1 to 4; tables, each twice, or half, the one ahead of it, each of which counts ahead of the next one; the writers' locks are freed 4 to 1, and the resizer's behind those.
func TestOrder(t *testing.T) {
	taken := []string{"lock 5 has 1", "lock 1 has 1", "lock 2 has 1", "lock 3 has 1", "lock 4 has 1"}
	freed := []string{"lock 4 has -1", "lock 3 has -1", "lock 2 has -1", "lock 1 has -1", "lock 5 has -1"}
	waits := []string{"lock 0 has 1", "lock 0 has -1"}
	turn := func(l ...string) []string { return slices.Concat(l, waits) }
	for _, c := range []struct {
		n, size int
		turns   [][]string
	}{
		{2, 2, nil},
		{2, 8, [][]string{turn("table of 4", "2 counts"), turn("table of 8", "3 counts")}},
		{8, 1, [][]string{turn("table of 4", "2 counts"), turn("table of 2", "3 counts"), turn("table of 1", "4 counts")}},
	} {
		m := trial.FreeTable(t, 2, make([][]string, c.n))
		want := slices.Concat(taken, slices.Concat(c.turns...), freed)
		if is := changes(m, New(1, c.size)); !slices.Equal(is, want) {
			t.Fatalf("from %d to %d it does %q, not %q", c.n, c.size, is, want)
		}
	}
}

// P15.1: whatever other locks are held, by whomever, its own worker, too: for each lock that it takes it is ready just if that one is free, and is stuck else, without an error, till it is freed.
func TestReadyForLocks(t *testing.T) {
	for taken, lock := range order() {
		for _, holder := range []int{0, 1, somebody} {
			for held := range 1 << 6 {
				m, x := newPair(t, 2, 0, 4, trial.KeysByTurns(2, 2))
				for range taken {
					x.Step(m)
				}
				before := trial.Look(m)
				for other := range m.Locks.Len() {
					if held>>other&1 == 1 {
						m.Locks.Try(other, holder)
					}
				}
				is := held>>lock&1 == 0
				if ready := x.F.Ready(m); ready != is {
					t.Fatalf("the locks %b are held, behind %d that were taken: Ready = %v", held, taken, ready)
				}
				if !is {
					trial.Stuck(t, m, x.F, "the lock is held")
					x.Tells("the lock is held")
				}
				for other, was := range before.Holders {
					if was == -1 {
						m.Locks.Free(other, holder)
					}
				}
				if n := x.Finish(m); n != stepsOf(t, 2, 4, trial.KeysByTurns(2, 2))-taken {
					t.Fatalf("from there on it takes %d steps", n)
				}
			}
		}
	}
}

// P15.1: while another one has the period's lock it isn't ready for the first step of each wait, and goes on as soon as that is free; for all its other steps that lock doesn't matter.
func TestPeriodLockHeld(t *testing.T) {
	for _, holder := range []int{0, 1, somebody} {
		m, x := newPair(t, 2, 0, 8, trial.KeysByTurns(1, 0))
		stuck := 0
		for done := false; !done; {
			m.Locks.Try(periodLock, holder)
			if x.F.Ready(m) {
				before := m.Locks.Holder(periodLock)
				done = x.Step(m)
				m.Locks.Free(periodLock, before)
				continue
			}
			trial.Stuck(t, m, x.F, "the period's lock is held")
			m.Locks.Free(periodLock, holder)
			stuck++
			for m.Locks.Holder(periodLock) == -1 {
				x.Step(m)
			}
			for m.Locks.Holder(periodLock) != -1 {
				x.Step(m)
			}
		}
		if stuck != 3 {
			t.Fatalf("of three turns it was stuck %d times", stuck)
		}
	}
}

// moved is a memory of a table of n buckets, and the numbers of tables without keys, of these numbers of buckets, behind it.
func moved(t *testing.T, n int, sizes ...int) (*mem.Mem, []int) {
	t.Helper()
	m := trial.FreeTable(t, 1, make([][]string, n))
	var numbers []int
	for _, size := range sizes {
		numbers = append(numbers, trial.NewTable(t, m, size))
	}
	return m, numbers
}

// P15.1: which N the table has is looked at within the step that takes the lock 4: a table that came to count ahead of that step is the one that matters; one that comes to count behind it isn't looked at any more.
func TestLooksByLastLock(t *testing.T) {
	for ahead := range locks + 1 {
		m, numbers := moved(t, 8, 2)
		r := New(0, 2)
		trial.Ahead(t, m, r, ahead, "locks")
		trial.Count(m, numbers[0])
		n, done := mem.Finish(m, r, most)
		if ahead < locks && (!done || n != 2*locks-ahead || m.Now().N != 2) {
			t.Fatalf("counting behind %d steps, it takes %d more, done: %v, the table is %v", ahead, n, done, m.Now())
		}
		// What comes is a shrink of the table that counts by then, to one bucket, and a grow.
		if ahead == locks && (!done || n <= locks || len(trial.Look(m).Tables) != 3+2 || m.Now().N != 2) {
			t.Fatalf("counting behind all locks, it takes %d more, done: %v, the table is %v", n, done, m.Now())
		}
	}
	m, numbers := moved(t, 2, 8)
	r := New(0, 2)
	trial.Ahead(t, m, r, locks, "locks")
	trial.Count(m, numbers[0])
	trial.Finish(t, m, r, locks, "a table that counts when nothing is looked at any more")
	if m.Now().N != 8 {
		t.Fatalf("the table is %v", m.Now())
	}
}

// P15.1: which N the table has is looked at within the step that ends a turn: ahead of that step another table that comes to count matters, and behind it it doesn't.
func TestLooksByEndOfTurn(t *testing.T) {
	for _, c := range [][2]int{{1, 8}, {16, 8}, {4, 8}, {8, 2}} {
		n, size := c[0], c[1]
		// One turn of empty buckets, alone.
		turn := stepsOf(t, 1, pathOf(n, size)[0], make([][]string, n)) - 2*locks
		for behind := range 2 {
			m, numbers := moved(t, n, size, 2*size)
			r := New(0, size)
			trial.Ahead(t, m, r, locks+turn-1+behind, "steps ahead")
			trial.Count(m, numbers[0])
			steps, done := mem.Finish(m, r, most)
			// Behind it the turn that follows goes on from that table, if there is one.
			another := behind == 1 && len(pathOf(n, size)) > 1
			if !done || (steps == locks+1-behind) == another || m.Now().N != size {
				t.Fatalf("from %d to %d, counting %d behind: %d steps more, done: %v, the table is %v", n, size, behind, steps, done, m.Now())
			}
		}
	}
}

// P15.1: with no room for the cells of a table it is range, told from the step on by which the turn failed: then the locks are freed, and the table is the one that there was ahead of that, also behind turns that were done; with just so much room it is done.
func TestTooManyCells(t *testing.T) {
	for _, c := range [][2]int{{1, 2}, {1, 8}, {2, 16}, {2, 1}, {16, 2}} {
		n, size := c[0], c[1]
		path, keys := pathOf(n, size), trial.KeysByTurns(n, 3)
		room := 0
		for i, cells := range append(path, 0) {
			for _, less := range []int{1, min(cells, 2)} {
				m := trial.FreeTable(t, 2, keys)
				m.Cells.Grow(mostCells - m.Cells.Len() - room - max(cells-less, 0))
				r := New(1, size)
				if i == len(path) {
					trial.Finish(t, m, r, stepsOf(t, 2, size, keys), "just so much room")
				} else {
					failsAt(t, m, r, path[:i], keys)
				}
				last := slices.Concat([]int{n}, path[:i])[i]
				trial.CheckTable(t, m, resized(keys, last))
				nobodyHolds(t, m, "no room for cells")
			}
			room += cells
		}
	}
}

// failsAt has a resize of such keys fail for want of cells, behind so many turns.
func failsAt(t *testing.T, m *mem.Mem, r *Resize, turns []int, keys [][]string) {
	t.Helper()
	size := slices.Concat([]int{len(keys)}, turns)[len(turns)]
	// Two steps of the turn that fails: one loads, and one makes no table.
	ahead := stepsOf(t, 2, size, keys) - locks + 2
	for n := range ahead {
		if e := r.Err(); e != api.OK {
			t.Fatalf("ahead of the step %d Err = %v", n, e)
		}
		trial.Step(t, m, r, false, "a step ahead")
	}
	for lock := locks - 1; lock >= 0; lock-- {
		if e := r.Err(); e != api.ErrRange {
			t.Fatalf("no room for cells: Err = %v", e)
		}
		trial.Step(t, m, r, lock == 0, "a lock is freed")
		want := slices.Clone(order()[:lock])
		slices.Sort(want)
		if l := m.Locks.Held(1); !slices.Equal(l, want) {
			t.Fatalf("no room for cells: it holds %v, not %v", l, want)
		}
	}
	if e := r.Err(); e != api.ErrRange {
		t.Fatalf("behind the end Err = %v", e)
	}
}

// P15.1: behind one that failed another one is done as ever, as soon as it can be.
func TestAfterFailure(t *testing.T) {
	m := trial.FreeTable(t, 2, trial.KeysByTurns(4, 2))
	m.Cells.Grow(mostCells - m.Cells.Len() - 8)
	r := New(0, 16)
	if _, done := mem.Finish(m, r, most); !done || r.Err() != api.ErrRange || m.Now().N != 8 {
		t.Fatalf("done: %v, Err = %v, the table is %v", done, r.Err(), m.Now())
	}
	trial.Finish(t, m, New(1, 8), 10, "to the N that there is")
	trial.CheckTable(t, m, trial.Spread(trial.KeysByTurns(4, 2), 8))
	trial.Finish(t, m, New(0, 4), 12, "no room for the cells of any table")
	trial.Fails(t, m, New(1, 9), api.ErrSize, "a wrong size")
}

// P15.2: with the flag up from the beginning on, and whatever the nodes' keys and sums are, all are there.
func TestWhateverNodes(t *testing.T) {
	m, _ := mem.New(8, 1)
	nodes := []arena.Node{{Key: "a", Val: "0", Sum: 7}, {Key: "a", Val: "1"}, {Sum: 1<<32 - 1}, {Key: "a", Val: "0", Sum: 7}, {Key: "b", Sum: 2}}
	all := trial.Lay(t, m, m.Now().Base, nodes...)
	m.Arena.Read(0)
	for _, size := range []int{8, 1, 4, 2, 65536, 1} {
		finish(t, m, 0, size)
		reach := m.Reach()
		slices.Sort(reach)
		if !slices.Equal(reach, all) {
			t.Fatalf("of %d buckets these are reached: %v", size, reach)
		}
		for bucket := range min(size, 8) {
			if l := m.Chain(bucket); len(trial.Look(m).Own(l, bucket, size)) != len(l) {
				t.Fatalf("of %d buckets, the chain %d is %v", size, bucket, l)
			}
		}
	}
}

// R3: resizes of two memories know nothing of each other, however far each is.
func TestTwoMemories(t *testing.T) {
	m, one := newPair(t, 1, 0, 8, trial.KeysByTurns(2, 2))
	o, two := newPair(t, 1, 0, 1, trial.KeysByTurns(4, 3))
	for left := 2; left > 0; {
		left = 0
		for _, x := range []struct {
			*pair
			m *mem.Mem
		}{{one, m}, {two, o}} {
			if x.p.at != atEnd && !x.Step(x.m) {
				left++
			}
		}
	}
	trial.CheckTable(t, m, resized(trial.KeysByTurns(2, 2), 8))
	trial.CheckTable(t, o, resized(trial.KeysByTurns(4, 3), 1))
}

// R1: steps behind the last one don't panic, and change nothing, though another resize of that worker is on its way.
func TestStepBehindEnd(t *testing.T) {
	for _, size := range []int{4, 2, 3} {
		m := trial.FreeTable(t, 1, trial.KeysByTurns(2, 2))
		one, two := New(0, size), New(0, 8)
		mem.Finish(m, one, most)
		e := one.Err()
		for done := false; !done; done = two.Step(m) {
			before := trial.Look(m)
			for range 3 {
				one.Ready(m)
				one.Step(m)
			}
			if one.Err() != e {
				t.Fatalf("behind the end Err = %v", one.Err())
			}
			before.Check(t, m, "behind the end")
		}
	}
}

// The document's examples: to 8 of an empty table, alone, it is 8 buckets, and no lock is held; to 3 it is size, in one step.
func TestExamples(t *testing.T) {
	m, _ := mem.New(1, 1)
	finish(t, m, 0, 8)
	nobodyHolds(t, m, "to 8")
	r := New(0, 3)
	if n, done := mem.Finish(m, r, most); n != 1 || !done || r.Err() != api.ErrSize || m.Now().N != 8 {
		t.Fatalf("to 3: Finish = %d, %v, Err = %v, the table is %v", n, done, r.Err(), m.Now())
	}
}
