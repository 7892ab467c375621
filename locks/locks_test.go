package locks

import (
	"math"
	"math/bits"
	"slices"
	"testing"

	"quietus/api"
)

// most and none are written out, so that the tests don't lean on the names that they hold.
const (
	most = 64
	none = -1
)

// wrongCounts are numbers of locks that are too many, or below 0, some of them such whose low bits alone would do.
func wrongCounts() []int {
	l := []int{
		-1, -2, -63, -64, -65, -256, math.MinInt32, math.MinInt, math.MinInt + 1,
		65, 66, 100, 128, 255, 256, 257, 65536, 1 << 20, math.MaxInt32, math.MaxInt, math.MaxInt - 1,
	}
	if bits.UintSize == 64 {
		high := 1 << (bits.UintSize / 2)
		l = append(l, high, high+1, high+64, -high, 1-high, 64-high)
	}
	return l
}

// notThere are numbers of locks that aren't there, of so many.
func notThere(n int) []int {
	l := []int{
		-1, -2, -n, -n - 1, n, n + 1, 2*n + 1, 63, 64, 65, -64, 256, 65536,
		math.MaxInt32, math.MinInt32, math.MaxInt, math.MaxInt - 1, math.MinInt, math.MinInt + 1,
	}
	if bits.UintSize == 64 {
		high := 1 << (bits.UintSize / 2)
		l = append(l, high, high+1, -high, 1-high)
	}
	return slices.DeleteFunc(l, func(i int) bool { return i >= 0 && i < n })
}

// someWorkers are workers of all sizes; several have the same low bits.
func someWorkers() []int {
	l := []int{0, 1, 2, 5, 7, 8, 63, 64, 127, 128, 255, 256, 257, 65535, 65536, math.MaxInt32 - 1, math.MaxInt32, math.MaxInt - 1, math.MaxInt}
	if bits.UintSize == 64 {
		high := 1 << (bits.UintSize / 2)
		l = append(l, high-1, high, high+1, high+5)
	}
	return l
}

// workersBelow are workers that may not be.
func workersBelow() []int {
	l := []int{-1, -2, -5, -6, -64, -128, -256, -65536, math.MinInt32, math.MinInt, math.MinInt + 1}
	if bits.UintSize == 64 {
		high := 1 << (bits.UintSize / 2)
		l = append(l, -high, 1-high, 5-high)
	}
	return l
}

// newLocks are locks that have these holders; none stands for a free one.
func newLocks(t *testing.T, holders ...int) *Locks {
	t.Helper()
	l, e := New(len(holders))
	if l == nil || e != api.OK {
		t.Fatalf("New(%d) = %v, %v", len(holders), l, e)
	}
	for i, worker := range holders {
		if worker == none {
			continue
		}
		if ok, e := l.Try(i, worker); !ok || e != api.OK {
			t.Fatalf("Try(%d, %d) of a free lock = %v, %v", i, worker, ok, e)
		}
	}
	return l
}

// freeLocks are the holders of so many free locks.
func freeLocks(n int) []int {
	return slices.Repeat([]int{none}, n)
}

// heldOf are the locks that a worker holds, of these holders.
func heldOf(worker int, holders []int) []int {
	held := []int{}
	for i, w := range holders {
		if w == worker {
			held = append(held, i)
		}
	}
	return held
}

// checkHolders says whether the locks are as many as these holders, and each has its holder, by Holder and by Held.
func checkHolders(t *testing.T, what string, l *Locks, holders ...int) {
	t.Helper()
	if l.Len() != len(holders) {
		t.Fatalf("%s: Len() = %d, not %d", what, l.Len(), len(holders))
	}
	for i, worker := range holders {
		if w := l.Holder(i); w != worker {
			t.Fatalf("%s: Holder(%d) = %d, not %d", what, i, w, worker)
		}
		if worker == none {
			continue
		}
		if held, want := l.Held(worker), heldOf(worker, holders); !slices.Equal(held, want) {
			t.Fatalf("%s: Held(%d) = %v, not %v", what, worker, held, want)
		}
	}
	for _, worker := range []int{none, math.MinInt} {
		if held := l.Held(worker); len(held) != 0 {
			t.Fatalf("%s: Held(%d) = %v", what, worker, held)
		}
	}
}

// P3.1: at most 64 locks.
func TestMost(t *testing.T) {
	if Most != most {
		t.Errorf("Most is %d, not %d", Most, most)
	}
}

// P3.1: New makes so many locks, each free, from none up to the limit, and each may be taken.
func TestNew(t *testing.T) {
	for n := 0; n <= most; n++ {
		l, e := New(n)
		if l == nil || e != api.OK {
			t.Fatalf("New(%d) = %v, %v", n, l, e)
		}
		want := freeLocks(n)
		checkHolders(t, "New", l, want...)
		for _, worker := range someWorkers() {
			if held := l.Held(worker); len(held) != 0 {
				t.Errorf("of %d new locks Held(%d) = %v", n, worker, held)
			}
		}
		for i := range n {
			if ok, e := l.Try(i, i); !ok || e != api.OK {
				t.Errorf("of %d new locks Try(%d, %d) = %v, %v", n, i, i, ok, e)
			}
			want[i] = i
			checkHolders(t, "Try of a new lock", l, want...)
		}
	}
}

// P3.1: New of too many locks, or of a number below 0, is ErrRange, and nil.
func TestNewWrong(t *testing.T) {
	for _, n := range wrongCounts() {
		if l, e := New(n); l != nil || e != api.ErrRange {
			t.Errorf("New(%d) = %v, %v", n, l, e)
		}
	}
}

// R5: locks hang on what was done to them, not on what was done to others.
func TestNewApart(t *testing.T) {
	one, two := newLocks(t, 1, none, 2), newLocks(t, none, 3, 2)
	one.Free(2, 2)
	two.Try(0, 1)
	two.Free(1, 3)
	checkHolders(t, "the one", one, 1, none, none)
	checkHolders(t, "the other", two, 1, none, 2)
}

// P3.1: Try of a free lock is true, for whatever worker, and no other lock changes.
func TestTryFree(t *testing.T) {
	for _, worker := range someWorkers() {
		for i := range 5 {
			want := []int{none, 5, none, 0, math.MaxInt}
			l := newLocks(t, want...)
			if want[i] != none {
				continue
			}
			want[i] = worker
			if ok, e := l.Try(i, worker); !ok || e != api.OK {
				t.Errorf("Try(%d, %d) of a free lock = %v, %v", i, worker, ok, e)
			}
			checkHolders(t, "Try", l, want...)
			checkHolders(t, "Try, asked again", l, want...)
		}
	}
}

// P3.1, P3.2: Try of a lock that is held is false, without an error, by its holder and by others, and changes nothing.
func TestTryHeld(t *testing.T) {
	for _, holder := range someWorkers() {
		l := newLocks(t, none, holder, 3)
		for _, worker := range someWorkers() {
			for range 2 {
				if ok, e := l.Try(1, worker); ok || e != api.OK {
					t.Errorf("Try(1, %d) of a lock that %d holds = %v, %v", worker, holder, ok, e)
				}
			}
			checkHolders(t, "Try of a lock that is held", l, none, holder, 3)
		}
		// However often its holder tried, once freed it is free.
		if e := l.Free(1, holder); e != api.OK {
			t.Errorf("Free(1, %d) by the holder = %v", holder, e)
		}
		checkHolders(t, "Free", l, none, none, 3)
	}
}

// P3.1: Free by the holder frees that lock, and no other one, not those of the same holder either.
func TestFree(t *testing.T) {
	for _, worker := range someWorkers() {
		for i := range 4 {
			want := []int{worker, worker, worker, worker}
			l := newLocks(t, want...)
			want[i] = none
			if e := l.Free(i, worker); e != api.OK {
				t.Errorf("Free(%d, %d) by the holder = %v", i, worker, e)
			}
			checkHolders(t, "Free", l, want...)
		}
	}
}

// P3.1: a lock that was freed may be taken again, by each worker.
func TestFreeThenTry(t *testing.T) {
	l := newLocks(t, 9, none)
	last := 9
	for _, worker := range someWorkers() {
		if e := l.Free(0, last); e != api.OK {
			t.Fatalf("Free(0, %d) by the holder = %v", last, e)
		}
		checkHolders(t, "Free", l, none, none)
		if held := l.Held(last); len(held) != 0 {
			t.Errorf("Held(%d) of a lock that was freed = %v", last, held)
		}
		if ok, e := l.Try(0, worker); !ok || e != api.OK {
			t.Fatalf("Try(0, %d) of a lock that was freed = %v, %v", worker, ok, e)
		}
		checkHolders(t, "Try", l, worker, none)
		last = worker
	}
}

// P3.2: Free by one that isn't the holder is ErrState, and changes nothing.
func TestFreeByOther(t *testing.T) {
	for _, holder := range someWorkers() {
		for _, worker := range someWorkers() {
			if worker == holder {
				continue
			}
			// That it holds other locks doesn't help it.
			l := newLocks(t, worker, holder, none)
			if e := l.Free(1, worker); e != api.ErrState {
				t.Errorf("Free(1, %d) of a lock that %d holds = %v", worker, holder, e)
			}
			checkHolders(t, "Free by another one", l, worker, holder, none)
		}
	}
}

// P3.1: Free of a lock that is free is ErrState, and changes nothing: of a new one, and of one that was freed.
func TestFreeOfFree(t *testing.T) {
	for _, worker := range someWorkers() {
		l := newLocks(t, none, worker)
		if e := l.Free(0, worker); e != api.ErrState {
			t.Errorf("Free(0, %d) of a new lock = %v", worker, e)
		}
		checkHolders(t, "Free of a new lock", l, none, worker)
		l.Free(1, worker)
		for _, other := range someWorkers() {
			if e := l.Free(1, other); e != api.ErrState {
				t.Errorf("Free(1, %d) of a lock that was freed = %v", other, e)
			}
		}
		checkHolders(t, "Free of a lock that was freed", l, none, none)
	}
}

// P3.1: of a lock that isn't there Try and Free are ErrRange, whatever the worker, Holder is -1, and nothing changes.
func TestNoSuchLock(t *testing.T) {
	for _, holders := range [][]int{{}, {none}, {0}, {5, none, 5}, slices.Repeat([]int{1}, most-1), slices.Repeat([]int{0}, most)} {
		l := newLocks(t, holders...)
		for _, i := range notThere(len(holders)) {
			for _, worker := range slices.Concat(someWorkers(), workersBelow()) {
				if ok, e := l.Try(i, worker); ok || e != api.ErrRange {
					t.Errorf("of %d locks Try(%d, %d) = %v, %v", len(holders), i, worker, ok, e)
				}
				if e := l.Free(i, worker); e != api.ErrRange {
					t.Errorf("of %d locks Free(%d, %d) = %v", len(holders), i, worker, e)
				}
			}
			if w := l.Holder(i); w != none {
				t.Errorf("of %d locks Holder(%d) = %d", len(holders), i, w)
			}
		}
		checkHolders(t, "no such lock", l, holders...)
	}
}

// P3.1: of a worker below 0 Try and Free are ErrRange, of a lock that is free, and of one that is held, ahead of ErrState; Held is empty; nothing changes.
func TestWorkerBelow(t *testing.T) {
	holders := []int{none, 0, 5, none, math.MaxInt}
	l := newLocks(t, holders...)
	for _, worker := range workersBelow() {
		for i := range holders {
			if ok, e := l.Try(i, worker); ok || e != api.ErrRange {
				t.Errorf("Try(%d, %d) = %v, %v", i, worker, ok, e)
			}
			if e := l.Free(i, worker); e != api.ErrRange {
				t.Errorf("Free(%d, %d) = %v", i, worker, e)
			}
		}
		if held := l.Held(worker); len(held) != 0 {
			t.Errorf("Held(%d) = %v", worker, held)
		}
		checkHolders(t, "a worker below 0", l, holders...)
	}
}

// P3.1: Held is empty of a worker that holds none: never had one, or freed those that it had.
func TestHeldNone(t *testing.T) {
	l := newLocks(t, none, 3, 4, 3)
	for _, worker := range someWorkers() {
		if held := l.Held(worker); len(held) != 0 {
			t.Errorf("Held(%d) of a worker that holds none = %v", worker, held)
		}
	}
	l.Free(3, 3)
	l.Free(1, 3)
	if held := l.Held(3); len(held) != 0 {
		t.Errorf("Held(3) of a worker that freed all = %v", held)
	}
	checkHolders(t, "Held", l, none, none, 4, none)
}

// P3.1: Held is rising, in whatever order the locks were taken.
func TestHeldRising(t *testing.T) {
	for _, step := range []int{1, 3, 5, 29, 63} {
		l := newLocks(t, freeLocks(most)...)
		want := freeLocks(most)
		for k := range most {
			i := k * step % most
			if ok, e := l.Try(i, 7+i%3); !ok || e != api.OK {
				t.Fatalf("Try(%d, %d) of a free lock = %v, %v", i, 7+i%3, ok, e)
			}
			want[i] = 7 + i%3
			checkHolders(t, "Held", l, want...)
		}
	}
}

// P3.1: one worker may hold all locks that there may be.
func TestHeldAll(t *testing.T) {
	l := newLocks(t, slices.Repeat([]int{6}, most)...)
	held := l.Held(6)
	for i := range most {
		if len(held) != most || held[i] != i {
			t.Fatalf("Held(6) of all locks = %v", held)
		}
	}
}

// R3: what Held answers is new memory: neither the locks nor another answer change with it.
func TestHeldApart(t *testing.T) {
	l := newLocks(t, 2, none, 2, 2)
	one, two := l.Held(2), l.Held(2)
	one[0], one[1] = 9, 9
	one = append(one, 9)
	clear(one[:cap(one)])
	if !slices.Equal(two, []int{0, 2, 3}) {
		t.Errorf("the other answer is %v", two)
	}
	checkHolders(t, "an answer that was changed", l, 2, none, 2, 2)
	l.Free(2, 2)
	if !slices.Equal(two, []int{0, 2, 3}) {
		t.Errorf("behind Free an earlier answer is %v", two)
	}
}

// P3.1, P3.2: a row of calls of both kinds, right and wrong ones: no lock has two holders, and its holder alone frees it.
func TestRow(t *testing.T) {
	const n, workers = 6, 4
	want := freeLocks(n)
	l := newLocks(t, want...)
	pick := uint32(1)
	next := func(n int) int {
		pick = pick*1664525 + 1013904223
		return int(pick>>8) % n
	}
	taken, freed := 0, 0
	for range 20000 {
		// One more than there are, on either side.
		i, worker, try := next(n+2)-1, next(workers+1)-1, next(2) == 0
		there := i >= 0 && i < n && worker >= 0
		switch {
		case !there:
			checkRange(t, l, i, worker)
		case try:
			is := want[i] == none
			if ok, e := l.Try(i, worker); ok != is || e != api.OK {
				t.Fatalf("Try(%d, %d) of a lock that %d holds = %v, %v", i, worker, want[i], ok, e)
			}
			if is {
				want[i] = worker
				taken++
			}
		case want[i] == worker:
			if e := l.Free(i, worker); e != api.OK {
				t.Fatalf("Free(%d, %d) by the holder = %v", i, worker, e)
			}
			want[i] = none
			freed++
		default:
			if e := l.Free(i, worker); e != api.ErrState {
				t.Fatalf("Free(%d, %d) of a lock that %d holds = %v", i, worker, want[i], e)
			}
		}
		checkHolders(t, "a row of calls", l, want...)
		checkOneHolder(t, l, workers)
	}
	if taken < 100 || freed < 100 {
		t.Errorf("of the row %d calls took a lock, %d freed one", taken, freed)
	}
}

// checkRange says whether both calls of this lock and this worker are ErrRange.
func checkRange(t *testing.T, l *Locks, i, worker int) {
	t.Helper()
	ok, try := l.Try(i, worker)
	if free := l.Free(i, worker); ok || try != api.ErrRange || free != api.ErrRange {
		t.Fatalf("Try(%d, %d) = %v, %v; Free = %v", i, worker, ok, try, free)
	}
}

// checkOneHolder says whether each lock is held by one of so many workers at most, by what Held tells of each.
func checkOneHolder(t *testing.T, l *Locks, workers int) {
	t.Helper()
	times := make([]int, l.Len())
	for worker := range workers {
		for _, i := range l.Held(worker) {
			times[i]++
			if l.Holder(i) != worker {
				t.Fatalf("the lock %d is held by %d, and by %d", i, worker, l.Holder(i))
			}
		}
	}
	if slices.Max(times) > 1 {
		t.Fatalf("so often the locks are held: %v", times)
	}
}

// P3.1, P3.2: the chapter's example.
func TestExample(t *testing.T) {
	l := newLocks(t, none)
	if ok, e := l.Try(0, 5); !ok || e != api.OK {
		t.Errorf("Try(0, 5) = %v, %v", ok, e)
	}
	if ok, e := l.Try(0, 6); ok || e != api.OK {
		t.Errorf("Try(0, 6) = %v, %v", ok, e)
	}
	if e := l.Free(0, 6); e != api.ErrState {
		t.Errorf("Free(0, 6) = %v", e)
	}
	checkHolders(t, "the example", l, 5)
}
