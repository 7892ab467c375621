package retire

import (
	"math"
	"slices"
	"testing"

	"quietus/arena"
	"quietus/mem"
	"quietus/qsbr"
	"quietus/trial"
)

// maker makes a thread of a memory.
type maker func(m *mem.Mem) *trial.Thread

// outcome is a frame that has one node wait after the other, and each is reached no more by then.
type outcome struct{ left []arena.Handle }

// Ready says that it always can take its step.
func (o *outcome) Ready(*mem.Mem) bool { return true }

// Step has the next one wait.
func (o *outcome) Step(m *mem.Mem) bool {
	m.Retire(o.left[0])
	o.left = o.left[1:]
	return len(o.left) == 0
}

// reader comes in and goes out so many times; every other time it comes in anew without that.
func reader(worker, rounds int) maker {
	return func(*mem.Mem) *trial.Thread {
		x := &trial.Thread{Worker: worker}
		for round := range rounds {
			x.Makers = append(x.Makers, func() mem.Frame { return qsbr.Enter(worker) })
			if round%2 == 0 {
				x.Makers = append(x.Makers, func() mem.Frame { return qsbr.Leave(worker) })
			}
		}
		return x
	}
}

// writer has so many nodes wait.
func writer(n int) maker {
	return func(m *mem.Mem) *trial.Thread {
		o := &outcome{}
		for range n {
			h, _ := m.Arena.Alloc(arena.Node{})
			o.left = append(o.left, h)
		}
		return &trial.Thread{Makers: []func() mem.Frame{func() mem.Frame { return o }}}
	}
}

// drainer drains so many times.
func drainer(who, rounds int) maker {
	return func(*mem.Mem) *trial.Thread {
		x := &trial.Thread{}
		for range rounds {
			x.Makers = append(x.Makers, func() mem.Frame { return New(who) })
		}
		return x
	}
}

// taken is what a drain took, and which workers have been in since.
type taken struct {
	all, since []arena.Handle
	in         []int
}

// world is threads on one memory, and what each drain took.
type world struct {
	t       *testing.T
	m       *mem.Mem
	threads []*trial.Thread
	taken   map[*Drain]*taken
	// left is how many steps there may be yet.
	left int
}

// Ready are the threads that are ready.
func (w *world) Ready() []int { return trial.Ready(w.m, w.threads) }

// Step has a thread take its step, and looks at P7.2.
func (w *world) Step(i int) {
	w.t.Helper()
	if w.left--; w.left < 0 {
		w.t.Fatal("there are more steps than there may be")
	}
	in, waited := trial.In(w.m), w.m.Waiting()
	f, done := w.threads[i].Step(w.m)
	d, ok := f.(*Drain)
	if ok && w.taken[d] == nil {
		w.began(d, in, waited)
	}
	_, coming := f.(*qsbr.Coming)
	for d, took := range w.taken {
		took.in = slices.DeleteFunc(took.in, func(worker int) bool {
			return !slices.Contains(trial.In(w.m), worker) || coming && done && worker == w.threads[i].Worker
		})
		w.check(d, took)
	}
	if ok && done && len(d.Left()) > 0 {
		w.t.Fatalf("a drain is done, and these are left: %v", d.Left())
	}
}

// began keeps what a drain took by its first step.
func (w *world) began(d *Drain, in []int, waited int) {
	w.t.Helper()
	took := &taken{all: d.Left(), since: d.Left(), in: in}
	if len(took.all) != waited || waited == 0 || w.m.Waiting() != 0 {
		w.t.Fatalf("of %d that waited a drain took %v", waited, took.all)
	}
	w.taken[d] = took
}

// check says whether of what a drain took none is freed too early, or out of order, and Left tells just those that are live.
func (w *world) check(d *Drain, took *taken) {
	w.t.Helper()
	var live []arena.Handle
	for _, h := range took.all {
		if w.m.Arena.Live(h) {
			live = append(live, h)
		}
	}
	left := d.Left()
	if !slices.Equal(left, live) || !slices.Equal(left, took.all[len(took.all)-len(live):]) || len(took.since)-len(live) > 1 {
		w.t.Fatalf("of %v, that a drain took, and %v, that were left, are left: %v, live: %v", took.all, took.since, left, live)
	}
	if len(live) < len(took.since) && len(took.in) > 0 {
		w.t.Fatalf("of %v, that a drain took, one was freed, since it took these are in: %v", took.all, took.in)
	}
	took.since = left
}

// newWorld is a world whose threads are made anew.
func newWorld(t *testing.T, workers int, makers []maker) *world {
	t.Helper()
	m, _ := mem.New(60, workers)
	w := &world{t: t, m: m, taken: map[*Drain]*taken{}, left: 3000}
	for _, maker := range makers {
		w.threads = append(w.threads, maker(m))
	}
	return w
}

// End says whether all is drained as nobody is ready any more; drains that never began are left then, since none waits.
func (w *world) End() {
	w.t.Helper()
	if w.m.Waiting() != 0 || w.m.Arena.Spare() != w.m.Arena.Room() || w.m.Arena.Fault() {
		w.t.Fatalf("nobody is ready, %d wait, %d are free, the flag is up: %v", w.m.Waiting(), w.m.Arena.Spare(), w.m.Arena.Fault())
	}
	for i, x := range w.threads {
		if !x.Left() {
			continue
		}
		if d, ok := x.Next().(*Drain); !ok || w.taken[d] != nil {
			w.t.Fatalf("nobody is ready, thread %d is on its way", i)
		}
	}
}

// P7.2: however the steps of readers, of one who has nodes wait, and of drains are mixed, none is freed while one is in that was so when it was taken, and has stayed so; all are freed, each once.
func TestAllWays(t *testing.T) {
	cases := []struct {
		name    string
		workers int
		makers  []maker
	}{
		{"a reader and a drain", 1, []maker{writer(1), reader(0, 3), drainer(1, 1)}},
		{"a reader and a drain, twice", 1, []maker{writer(2), reader(0, 1), drainer(1, 2)}},
		{"a reader and two drains", 1, []maker{writer(2), reader(0, 1), drainer(1, 1), drainer(2, 1)}},
		{"two readers and a drain", 2, []maker{writer(1), reader(0, 1), reader(1, 1), drainer(2, 1)}},
	}
	for _, c := range cases {
		if ends := trial.Explore(func() trial.World { return newWorld(t, c.workers, c.makers) }); ends < 500 {
			t.Errorf("%s: there are %d ways alone", c.name, ends)
		}
	}
}

// P7.2: the same for many threads, of memories of 1 to 8 workers, in ways that are picked.
func TestManyWays(t *testing.T) {
	for workers := 1; workers <= mostWorkers; workers++ {
		for seed := range uint32(40) {
			next := trial.Picker(seed*mostWorkers + uint32(workers))
			var makers []maker
			for worker := range workers {
				makers = append(makers, reader(worker, 11))
			}
			makers = append(makers, writer(20), writer(9))
			makers = append(makers, drainer(workers, 29), drainer(workers+1, 29))
			trial.Run(newWorld(t, workers, makers), next)
		}
	}
}

// plain is a drain told by its chapter's words: what its steps are is told by how many it took.
type plain struct {
	who, took int
	period    uint64
	left      []arena.Handle
}

// plainMem is what a plain drain uses.
type plainMem struct {
	period   uint64
	holder   int
	counters []uint64
	waiting  []arena.Handle
	live     []arena.Handle
	fault    bool
}

// ready says whether the drain has to be ready.
func (p *plain) ready(m *plainMem) bool {
	switch at := p.took - 3; {
	case p.took == 0:
		return len(m.waiting) > 0
	case p.took == 1:
		return m.holder == -1
	case at >= 0 && at < len(m.counters):
		return m.counters[at] == 0 || m.counters[at] >= p.period
	}
	return true
}

// step is what the drain's step has to do, and whether it is done by it.
func (p *plain) step(m *plainMem) bool {
	if !p.ready(m) {
		return false
	}
	p.took++
	switch at := p.took - len(m.counters); {
	case p.took == 1:
		p.left, m.waiting = m.waiting, nil
	case p.took == 2:
		m.holder = p.who
	case p.took == 3:
		m.period++
		p.period = m.period
	case at == around:
		m.holder = -1
	case at > around:
		m.free(p.left[0])
		p.left = p.left[1:]
		return len(p.left) == 0
	}
	return false
}

// free frees a handle, and has the flag up, if it isn't live.
func (m *plainMem) free(h arena.Handle) {
	i := slices.Index(m.live, h)
	if i < 0 {
		m.fault = true
		return
	}
	m.live = slices.Delete(m.live, i, i+1)
}

// pair is a drain, and the plain one that tells what it has to do.
type pair struct {
	d *Drain
	p *plain
}

// row is a memory, what it has to be, and drains that are on their way.
type row struct {
	next  func(n int) int
	m     *mem.Mem
	p     *plainMem
	pairs []pair
	// wrong says whether handles that are stale, 0, or wait already may come to wait.
	wrong bool
}

// newPair is a pair of any number that may have a lock.
func (r *row) newPair() pair {
	who := r.next(2 * mostWorkers)
	return pair{New(who), &plain{who: who}}
}

// newRow is a row of such a period.
func newRow(workers int, period uint64, wrong bool) *row {
	m, _ := mem.New(12, workers)
	m.Cells.Store(periodCell, period)
	r := &row{next: trial.Picker(uint32(workers) + uint32(period)), m: m, wrong: wrong}
	r.p = &plainMem{period: period, holder: -1, counters: make([]uint64, workers)}
	for range 3 {
		r.pairs = append(r.pairs, r.newPair())
	}
	return r
}

// disturb does something that others may do: a node is taken, and waits, or a counter is stored.
func (r *row) disturb() {
	switch r.next(8) {
	case 0:
		worker := r.next(r.m.Workers())
		words := []uint64{0, 1, r.p.period - 1, r.p.period, r.p.period + 1, math.MaxUint64}
		r.p.counters[worker] = words[r.next(len(words))]
		r.m.Cells.Store(firstCounter+worker, r.p.counters[worker])
	case 1:
		for worker := range r.p.counters {
			r.p.counters[worker] = 0
			r.m.Cells.Store(firstCounter+worker, 0)
		}
	case 2:
		if !r.wrong {
			return
		}
		wrong := append([]arena.Handle{0, 1, 13, far, math.MaxUint64}, r.p.live...)
		r.wait(wrong[r.next(len(wrong))])
	default:
		h, _ := r.m.Arena.Alloc(arena.Node{})
		if h == 0 {
			return
		}
		r.p.live = append(r.p.live, h)
		r.wait(h)
	}
}

// wait has a handle wait.
func (r *row) wait(h arena.Handle) {
	r.m.Retire(h)
	r.p.waiting = append(r.p.waiting, h)
}

// step has one of the drains take its step, ready or not, and says whether it is done.
func (r *row) step(t *testing.T) bool {
	t.Helper()
	place := r.next(len(r.pairs))
	x := r.pairs[place]
	if ready := x.d.Ready(r.m); ready != x.p.ready(r.p) {
		t.Fatalf("of %v, of %v: Ready = %v", *r.p, *x.p, ready)
	}
	done := x.d.Step(r.m)
	if done != x.p.step(r.p) {
		t.Fatalf("of %v, of %v: Step = %v", *r.p, *x.p, done)
	}
	if done {
		r.pairs[place] = r.newPair()
	}
	return done
}

// check says whether the memory is what it has to be, and what is left of each drain, too.
func (r *row) check(t *testing.T) {
	t.Helper()
	for _, x := range r.pairs {
		checkLeft(t, x.d, x.p.left, "a row of steps")
	}
	period, _ := r.m.Cells.Load(periodCell)
	if period != r.p.period || r.m.Locks.Holder(periodLock) != r.p.holder || r.m.Waiting() != len(r.p.waiting) {
		t.Fatalf("the period is %d, the holder %d, %d wait, of %v", period, r.m.Locks.Holder(periodLock), r.m.Waiting(), *r.p)
	}
	for worker, counter := range r.p.counters {
		if is, _ := r.m.Cells.Load(firstCounter + worker); is != counter {
			t.Fatalf("the counter of %d is %d, of %v", worker, is, *r.p)
		}
	}
	for _, h := range r.p.live {
		if !r.m.Arena.Live(h) {
			t.Fatalf("the handle %d isn't live, of %v", h, *r.p)
		}
	}
	if r.m.Arena.Spare() != r.m.Arena.Room()-len(r.p.live) || r.m.Arena.Fault() != r.p.fault {
		t.Fatalf("%d are free, the flag is up: %v, of %v", r.m.Arena.Spare(), r.m.Arena.Fault(), *r.p)
	}
}

// P7.1: long rows of steps of drains beside each other, taken whenever, ready or not, of counters and periods that hold whatever words, and of handles that are stale, 0, or wait twice: each does what its chapter says, and nothing else.
func TestRow(t *testing.T) {
	for workers := 1; workers <= mostWorkers; workers++ {
		for _, period := range []uint64{1, 0, 1000, 1<<63 - 3, math.MaxUint64 - 5} {
			for _, wrong := range []bool{false, true} {
				r := newRow(workers, period, wrong)
				done := 0
				for range 4000 {
					if r.next(4) == 0 {
						r.disturb()
					}
					if r.step(t) {
						done++
					}
					r.check(t)
				}
				if done < 60 || r.p.fault != wrong {
					t.Errorf("of %d workers %d drains alone were done, the flag is up: %v", workers, done, r.p.fault)
				}
			}
		}
	}
}
