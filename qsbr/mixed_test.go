package qsbr

import (
	"math"
	"slices"
	"testing"

	"quietus/mem"
)

// thread does frames, one after the other, in so many steps, if each of them is one that it is ready for.
type thread struct {
	makers []func() mem.Frame
	now    mem.Frame
	steps  int
}

// left says whether a frame is on its way, or left.
func (x *thread) left() bool { return x.now != nil || len(x.makers) > 0 }

// next is the frame of its next step.
func (x *thread) next() mem.Frame {
	if x.now == nil {
		x.now, x.makers = x.makers[0](), x.makers[1:]
	}
	return x.now
}

// reader comes in and goes out so many times.
func reader(worker, rounds int) *thread {
	x := &thread{steps: 3 * rounds}
	for range rounds {
		x.makers = append(x.makers, func() mem.Frame { return Enter(worker) }, func() mem.Frame { return Leave(worker) })
	}
	return x
}

// waiter waits so many times for so many workers.
func waiter(who, rounds, workers int) *thread {
	x := &thread{steps: (3 + workers) * rounds}
	for range rounds {
		x.makers = append(x.makers, func() mem.Frame { return Sync(who) })
	}
	return x
}

// world is threads on one memory, and for each Sync that began which workers have been in since its first step.
type world struct {
	t       *testing.T
	m       *mem.Mem
	threads []*thread
	since   map[*Wait][]int
	// left is how many steps there are to come.
	left int
}

// in are the workers that are in.
func (w *world) in() []int {
	var l []int
	for worker := range w.m.Workers() {
		if counter, _ := w.m.Cells.Load(firstCounter + worker); counter != 0 {
			l = append(l, worker)
		}
	}
	return l
}

// ready are the threads that are ready. It looks at P6.2's second half of each Sync on its way.
func (w *world) ready() []int {
	w.t.Helper()
	var l []int
	for i, x := range w.threads {
		if !x.left() {
			continue
		}
		f := x.next()
		ready := f.Ready(w.m)
		if ready {
			l = append(l, i)
		}
		s, ok := f.(*Wait)
		_, own := w.since[s]
		if ok && !ready && len(w.in()) == 0 && (own || w.m.Locks.Holder(periodLock) == -1) {
			w.t.Fatalf("nobody is in, and the lock is free, or its own: the Sync of thread %d isn't ready", i)
		}
	}
	return l
}

// step has a thread take its step. It looks at P6.2's first half, if a Sync is done by it.
func (w *world) step(i int) {
	w.t.Helper()
	if w.left--; w.left < 0 {
		w.t.Fatal("there are more steps than there may be")
	}
	x := w.threads[i]
	f := x.next()
	s, ok := f.(*Wait)
	if _, began := w.since[s]; ok && !began {
		w.since[s] = w.in()
	}
	done := f.Step(w.m)
	for o, l := range w.since {
		w.since[o] = slices.DeleteFunc(l, func(worker int) bool { return !slices.Contains(w.in(), worker) })
	}
	if !done {
		return
	}
	x.now = nil
	if ok && len(w.since[s]) > 0 {
		w.t.Fatalf("the Sync of thread %d is done, since its first step these are in: %v", i, w.since[s])
	}
	delete(w.since, s)
}

// newWorld is a world whose threads are made anew.
func newWorld(t *testing.T, workers int, makers []func() *thread) *world {
	t.Helper()
	m, _ := mem.New(1, workers)
	w := &world{t: t, m: m, since: map[*Wait][]int{}}
	for _, maker := range makers {
		x := maker()
		w.threads = append(w.threads, x)
		w.left += x.steps
	}
	return w
}

// end says whether all threads are done, and took all the steps that they had to.
func (w *world) end() {
	w.t.Helper()
	for i, x := range w.threads {
		if x.left() {
			w.t.Fatalf("nobody is ready, thread %d isn't done", i)
		}
	}
	if w.left != 0 {
		w.t.Fatalf("all are done, %d steps ahead of what there have to be", w.left)
	}
}

// explore goes through all ways in which the threads' steps can be mixed, and says how many there are: each goes on where it is, and anew from the beginning for each other choice.
func explore(t *testing.T, workers int, makers []func() *thread, picks []int) int {
	t.Helper()
	w := newWorld(t, workers, makers)
	for _, pick := range picks {
		w.ready()
		w.step(pick)
	}
	ends := 0
	for {
		ready := w.ready()
		if len(ready) == 0 {
			break
		}
		for _, other := range ready[1:] {
			ends += explore(t, workers, makers, append(slices.Clone(picks), other))
		}
		w.step(ready[0])
		picks = append(slices.Clone(picks), ready[0])
	}
	w.end()
	return ends + 1
}

// P6.2: however the steps of readers and of Syncs are mixed, no Sync is done while one is in that was so at its first step, and has stayed so; and somebody is ready till all are done.
func TestAllWays(t *testing.T) {
	cases := []struct {
		name    string
		workers int
		makers  []func() *thread
	}{
		{"a reader and a Sync", 1, []func() *thread{
			func() *thread { return reader(0, 3) }, func() *thread { return waiter(1, 1, 1) },
		}},
		{"a reader, and a worker that waits", 2, []func() *thread{
			func() *thread { return reader(0, 2) }, func() *thread { return waiter(1, 2, 2) },
		}},
		{"two readers and a Sync", 2, []func() *thread{
			func() *thread { return reader(0, 1) }, func() *thread { return reader(1, 1) }, func() *thread { return waiter(2, 1, 2) },
		}},
		{"a reader and two Syncs", 1, []func() *thread{
			func() *thread { return reader(0, 2) }, func() *thread { return waiter(1, 1, 1) }, func() *thread { return waiter(2, 1, 1) },
		}},
		{"two readers, one of them twice, and a Sync", 2, []func() *thread{
			func() *thread { return reader(0, 2) }, func() *thread { return reader(1, 1) }, func() *thread { return waiter(2, 1, 2) },
		}},
	}
	for _, c := range cases {
		if ends := explore(t, c.workers, c.makers, nil); ends < 500 {
			t.Errorf("%s: there are %d ways alone", c.name, ends)
		}
	}
}

// picker answers numbers below n, in a row that is the same each time.
func picker(seed uint32) func(n int) int {
	pick := seed
	return func(n int) int {
		pick = pick*1664525 + 1013904223
		return int(pick>>8) % n
	}
}

// P6.2: the same for many threads, of memories of 1 to 8 workers, in ways that are picked.
func TestManyWays(t *testing.T) {
	for workers := 1; workers <= mostWorkers; workers++ {
		for seed := range uint32(60) {
			next := picker(seed*mostWorkers + uint32(workers))
			var makers []func() *thread
			for worker := range workers {
				if worker > 0 && next(3) == 0 {
					makers = append(makers, func() *thread { return waiter(worker, 4, workers) })
					continue
				}
				makers = append(makers, func() *thread { return reader(worker, 12) })
			}
			makers = append(makers, func() *thread { return waiter(workers, 6, workers) })
			w := newWorld(t, workers, makers)
			for ready := w.ready(); len(ready) > 0; ready = w.ready() {
				w.step(ready[next(len(ready))])
			}
			w.end()
		}
	}
}

// plain is a frame told by its chapter's words: what its steps are is told by how many it took.
type plain struct {
	kind, worker, took int
	period             uint64
}

// The kinds of plain.
const (
	coming = iota
	going
	waiting
)

// plainMem is what a plain frame uses.
type plainMem struct {
	period   uint64
	holder   int
	counters []uint64
}

// ready says whether the frame has to be ready.
func (p *plain) ready(m *plainMem) bool {
	if p.kind != waiting {
		return true
	}
	switch at := p.took - 2; {
	case p.took == 0:
		return m.holder == -1
	case at >= 0 && at < len(m.counters):
		return m.counters[at] == 0 || m.counters[at] >= p.period
	}
	return true
}

// step is what the frame's step has to do, and whether it is done by it.
func (p *plain) step(m *plainMem) bool {
	if !p.ready(m) {
		return false
	}
	p.took++
	switch p.kind {
	case coming:
		if p.took == 1 {
			p.period = m.period
			return false
		}
		m.counters[p.worker] = p.period
		return true
	case going:
		m.counters[p.worker] = 0
		return true
	}
	switch p.took {
	case 1:
		m.holder = p.worker
	case 2:
		m.period++
		p.period = m.period
	case len(m.counters) + 3:
		m.holder = -1
		return true
	}
	return false
}

// pair is a frame, and the plain one that tells what it has to do.
type pair struct {
	f mem.Frame
	p *plain
}

// row is a memory, what it has to be, and frames of its workers that are on their way.
type row struct {
	next  func(n int) int
	m     *mem.Mem
	want  seen
	p     *plainMem
	pairs []pair
}

// newPair is a pair of any worker that there is; of three places one is for Syncs, since most of these wait for each other.
func (r *row) newPair(place int) pair {
	worker := r.next(r.m.Workers())
	switch {
	case place%3 == 0:
		return pair{Sync(worker), &plain{kind: waiting, worker: worker}}
	case r.next(2) == 0:
		return pair{Leave(worker), &plain{kind: going, worker: worker}}
	}
	return pair{Enter(worker), &plain{kind: coming, worker: worker}}
}

// newRow is a row of such a period.
func newRow(t *testing.T, workers int, period uint64) *row {
	t.Helper()
	m := newMem(t, workers)
	setPeriod(m, period)
	p := &plainMem{period: period, holder: -1, counters: make([]uint64, workers)}
	r := &row{next: picker(uint32(workers) + uint32(period)), m: m, want: look(m), p: p}
	for place := range 6 {
		r.pairs = append(r.pairs, r.newPair(place))
	}
	return r
}

// store has a counter be a word that may be anything, but most likely near the period.
func (r *row) store() {
	worker := r.next(r.m.Workers())
	words := []uint64{0, 1, r.p.period - 1, r.p.period, r.p.period + 1, math.MaxUint64}
	r.p.counters[worker] = words[r.next(len(words))]
	setCounter(r.m, worker, r.p.counters[worker])
}

// step has one of the frames take its step, ready or not, and says whether it is done.
func (r *row) step(t *testing.T) bool {
	t.Helper()
	place := r.next(len(r.pairs))
	x := r.pairs[place]
	if ready := x.f.Ready(r.m); ready != x.p.ready(r.p) {
		t.Fatalf("of %v, of %v: Ready = %v", *r.p, *x.p, ready)
	}
	done := x.f.Step(r.m)
	if done != x.p.step(r.p) {
		t.Fatalf("of %v, of %v: Step = %v", *r.p, *x.p, done)
	}
	if done {
		r.pairs[place] = r.newPair(place)
	}
	return done
}

// check says whether the memory is what it has to be.
func (r *row) check(t *testing.T) {
	t.Helper()
	want := r.want.period(r.p.period).holder(r.p.holder)
	for worker, counter := range r.p.counters {
		want = want.counter(worker, counter)
		checkIn(t, r.m, worker, counter != 0, "a row of steps")
	}
	want.check(t, r.m, "a row of steps")
}

// P6.1: long rows of steps of whatever frames, several of one worker among them, taken whenever, ready or not, of counters and periods that hold whatever words: each does what its chapter says, and nothing else.
func TestRow(t *testing.T) {
	for workers := 1; workers <= mostWorkers; workers++ {
		for _, period := range []uint64{1, 0, 1000, 1<<63 - 3, math.MaxUint64 - 5} {
			r := newRow(t, workers, period)
			done := 0
			for range 4000 {
				if r.next(40) == 0 {
					r.store()
				}
				if r.step(t) {
					done++
				}
				r.check(t)
			}
			if done < 1000 || r.p.period-period < 10 {
				t.Errorf("of %d workers %d frames alone were done, and the period is %d more", workers, done, r.p.period-period)
			}
		}
	}
}
