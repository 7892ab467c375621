package qsbr

import (
	"math"
	"slices"
	"testing"

	"quietus/mem"
	"quietus/trial"
)

// reader comes in and goes out so many times.
func reader(worker, rounds int) *trial.Thread {
	x := &trial.Thread{}
	for range rounds {
		x.Makers = append(x.Makers, func() mem.Frame { return Enter(worker) }, func() mem.Frame { return Leave(worker) })
	}
	return x
}

// waiter waits so many times.
func waiter(who, rounds int) *trial.Thread {
	x := &trial.Thread{}
	for range rounds {
		x.Makers = append(x.Makers, func() mem.Frame { return Sync(who) })
	}
	return x
}

// world is threads on one memory, and for each Sync that began which workers have been in since its first step.
type world struct {
	t       *testing.T
	m       *mem.Mem
	threads []*trial.Thread
	since   map[*Wait][]int
	// left is how many steps there are to come.
	left int
}

// Ready are the threads that are ready. It looks at P6.2's second half of each Sync on its way.
func (w *world) Ready() []int {
	w.t.Helper()
	for i, x := range w.threads {
		if !x.Left() {
			continue
		}
		s, ok := x.Next().(*Wait)
		_, own := w.since[s]
		if ok && !s.Ready(w.m) && len(trial.In(w.m)) == 0 && (own || w.m.Locks.Holder(periodLock) == -1) {
			w.t.Fatalf("nobody is in, and the lock is free, or its own: the Sync of thread %d isn't ready", i)
		}
	}
	return trial.Ready(w.m, w.threads)
}

// Step has a thread take its step. It looks at P6.2's first half, if a Sync is done by it.
func (w *world) Step(i int) {
	w.t.Helper()
	if w.left--; w.left < 0 {
		w.t.Fatal("there are more steps than there may be")
	}
	in := trial.In(w.m)
	f, done := w.threads[i].Step(w.m)
	s, ok := f.(*Wait)
	if _, began := w.since[s]; ok && !began {
		w.since[s] = in
	}
	for o, l := range w.since {
		w.since[o] = slices.DeleteFunc(l, func(worker int) bool { return !slices.Contains(trial.In(w.m), worker) })
	}
	if !ok || !done {
		return
	}
	if len(w.since[s]) > 0 {
		w.t.Fatalf("the Sync of thread %d is done, since its first step these are in: %v", i, w.since[s])
	}
	delete(w.since, s)
}

// maker makes a thread, and says how many steps it has to take.
type maker func() (*trial.Thread, int)

// reads makes a reader.
func reads(worker, rounds int) maker {
	return func() (*trial.Thread, int) { return reader(worker, rounds), 3 * rounds }
}

// waits makes one who waits, for so many workers.
func waits(who, rounds, workers int) maker {
	return func() (*trial.Thread, int) { return waiter(who, rounds), (3 + workers) * rounds }
}

// newWorld is a world whose threads are made anew.
func newWorld(t *testing.T, workers int, makers []maker) *world {
	t.Helper()
	m, _ := mem.New(1, workers)
	w := &world{t: t, m: m, since: map[*Wait][]int{}}
	for _, maker := range makers {
		x, steps := maker()
		w.threads = append(w.threads, x)
		w.left += steps
	}
	return w
}

// End says whether all threads are done, and took all the steps that they had to.
func (w *world) End() {
	w.t.Helper()
	for i, x := range w.threads {
		if x.Left() {
			w.t.Fatalf("nobody is ready, thread %d isn't done", i)
		}
	}
	if w.left != 0 {
		w.t.Fatalf("all are done, %d steps ahead of what there have to be", w.left)
	}
}

// P6.2: however the steps of readers and of Syncs are mixed, no Sync is done while one is in that was so at its first step, and has stayed so; and somebody is ready till all are done.
func TestAllWays(t *testing.T) {
	cases := []struct {
		name    string
		workers int
		makers  []maker
	}{
		{"a reader and a Sync", 1, []maker{reads(0, 3), waits(1, 1, 1)}},
		{"a reader, and a worker that waits", 2, []maker{reads(0, 2), waits(1, 2, 2)}},
		{"two readers and a Sync", 2, []maker{reads(0, 1), reads(1, 1), waits(2, 1, 2)}},
		{"a reader and two Syncs", 1, []maker{reads(0, 2), waits(1, 1, 1), waits(2, 1, 1)}},
		{"two readers, one of them twice, and a Sync", 2, []maker{reads(0, 2), reads(1, 1), waits(2, 1, 2)}},
	}
	for _, c := range cases {
		if ends := trial.Explore(func() trial.World { return newWorld(t, c.workers, c.makers) }); ends < 500 {
			t.Errorf("%s: there are %d ways alone", c.name, ends)
		}
	}
}

// P6.2: the same for many threads, of memories of 1 to 8 workers, in ways that are picked.
func TestManyWays(t *testing.T) {
	for workers := 1; workers <= mostWorkers; workers++ {
		for seed := range uint32(60) {
			next := trial.Picker(seed*mostWorkers + uint32(workers))
			var makers []maker
			for worker := range workers {
				if worker > 0 && next(3) == 0 {
					makers = append(makers, waits(worker, 4, workers))
					continue
				}
				makers = append(makers, reads(worker, 12))
			}
			makers = append(makers, waits(workers, 6, workers))
			trial.Run(newWorld(t, workers, makers), next)
		}
	}
}

// plain is a frame told by its chapter's words: what its steps are is told by how many it took.
type plain struct {
	kind, worker, took int
	period             uint64
}

// The kinds of plain.
const (
	coming = iota
	going
	waiting
)

// plainMem is what a plain frame uses.
type plainMem struct {
	period   uint64
	holder   int
	counters []uint64
}

// ready says whether the frame has to be ready.
func (p *plain) ready(m *plainMem) bool {
	if p.kind != waiting {
		return true
	}
	switch at := p.took - 2; {
	case p.took == 0:
		return m.holder == -1
	case at >= 0 && at < len(m.counters):
		return m.counters[at] == 0 || m.counters[at] >= p.period
	}
	return true
}

// step is what the frame's step has to do, and whether it is done by it.
func (p *plain) step(m *plainMem) bool {
	if !p.ready(m) {
		return false
	}
	p.took++
	switch p.kind {
	case coming:
		if p.took == 1 {
			p.period = m.period
			return false
		}
		m.counters[p.worker] = p.period
		return true
	case going:
		m.counters[p.worker] = 0
		return true
	}
	switch p.took {
	case 1:
		m.holder = p.worker
	case 2:
		m.period++
		p.period = m.period
	case len(m.counters) + 3:
		m.holder = -1
		return true
	}
	return false
}

// pair is a frame, and the plain one that tells what it has to do.
type pair struct {
	f mem.Frame
	p *plain
}

// row is a memory, what it has to be, and frames of its workers that are on their way.
type row struct {
	next  func(n int) int
	m     *mem.Mem
	want  trial.Seen
	p     *plainMem
	pairs []pair
}

// newPair is a pair of any worker that there is; of three places one is for Syncs, since most of these wait for each other.
func (r *row) newPair(place int) pair {
	worker := r.next(r.m.Workers())
	switch {
	case place%3 == 0:
		return pair{Sync(worker), &plain{kind: waiting, worker: worker}}
	case r.next(2) == 0:
		return pair{Leave(worker), &plain{kind: going, worker: worker}}
	}
	return pair{Enter(worker), &plain{kind: coming, worker: worker}}
}

// newRow is a row of such a period.
func newRow(t *testing.T, workers int, period uint64) *row {
	t.Helper()
	m := newMem(t, workers)
	setPeriod(m, period)
	p := &plainMem{period: period, holder: -1, counters: make([]uint64, workers)}
	r := &row{next: trial.Picker(uint32(workers) + uint32(period)), m: m, want: trial.Look(m), p: p}
	for place := range 6 {
		r.pairs = append(r.pairs, r.newPair(place))
	}
	return r
}

// store has a counter be a word that may be anything, but most likely near the period.
func (r *row) store() {
	worker := r.next(r.m.Workers())
	words := []uint64{0, 1, r.p.period - 1, r.p.period, r.p.period + 1, math.MaxUint64}
	r.p.counters[worker] = words[r.next(len(words))]
	setCounter(r.m, worker, r.p.counters[worker])
}

// step has one of the frames take its step, ready or not, and says whether it is done.
func (r *row) step(t *testing.T) bool {
	t.Helper()
	place := r.next(len(r.pairs))
	x := r.pairs[place]
	if ready := x.f.Ready(r.m); ready != x.p.ready(r.p) {
		t.Fatalf("of %v, of %v: Ready = %v", *r.p, *x.p, ready)
	}
	done := x.f.Step(r.m)
	if done != x.p.step(r.p) {
		t.Fatalf("of %v, of %v: Step = %v", *r.p, *x.p, done)
	}
	if done {
		r.pairs[place] = r.newPair(place)
	}
	return done
}

// check says whether the memory is what it has to be.
func (r *row) check(t *testing.T) {
	t.Helper()
	want := r.want.Period(r.p.period).Holder(periodLock, r.p.holder)
	for worker, counter := range r.p.counters {
		want = want.Counter(worker, counter)
		checkIn(t, r.m, worker, counter != 0, "a row of steps")
	}
	want.Check(t, r.m, "a row of steps")
}

// P6.1: long rows of steps of whatever frames, several of one worker among them, taken whenever, ready or not, of counters and periods that hold whatever words: each does what its chapter says, and nothing else.
func TestRow(t *testing.T) {
	for workers := 1; workers <= mostWorkers; workers++ {
		for _, period := range []uint64{1, 0, 1000, 1<<63 - 3, math.MaxUint64 - 5} {
			r := newRow(t, workers, period)
			done := 0
			for range 4000 {
				if r.next(40) == 0 {
					r.store()
				}
				if r.step(t) {
					done++
				}
				r.check(t)
			}
			if done < 1000 || r.p.period-period < 10 {
				t.Errorf("of %d workers %d frames alone were done, and the period is %d more", workers, done, r.p.period-period)
			}
		}
	}
}
