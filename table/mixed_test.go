package table

import (
	"slices"
	"testing"

	"quietus/mem"
	"quietus/trial"
)

// maker makes a thread.
type maker func() *trial.Thread

// writer holds buckets of these sums, one after the other, each of which it drops.
func writer(worker int, sums ...uint32) maker {
	return func() *trial.Thread {
		x := &trial.Thread{Worker: worker}
		for _, sum := range sums {
			h := New(worker, sum)
			drop := trial.Act{Do: func(m *mem.Mem) { h.Drop(m) }}
			x.Makers = append(x.Makers, func() mem.Frame { return h }, trial.MakeActs(drop))
		}
		return x
	}
}

// counts has a table count.
func counts(number int) trial.Act {
	return trial.Act{Do: func(m *mem.Mem) { trial.Count(m, number) }}
}

// takes takes a lock.
func takes(lock, who int) trial.Act {
	return trial.Act{Ready: func(m *mem.Mem) bool { return m.Locks.Holder(lock) == -1 }, Do: func(m *mem.Mem) { m.Locks.Try(lock, who) }}
}

// frees frees a lock.
func frees(lock, who int) trial.Act {
	return trial.Act{Do: func(m *mem.Mem) { m.Locks.Free(lock, who) }}
}

// nobody is the number of a thread that takes no locks.
const nobody = -1

// rude has tables count, one after the other, without a lock.
func rude(numbers ...int) maker {
	return func() *trial.Thread {
		var l []trial.Act
		for _, number := range numbers {
			l = append(l, counts(number))
		}
		return &trial.Thread{Worker: nobody, Makers: []func() mem.Frame{trial.MakeActs(l...)}}
	}
}

// polite has tables count, one after the other, each by all of these locks.
func polite(who int, locks []int, numbers ...int) maker {
	return func() *trial.Thread {
		var l []trial.Act
		for _, number := range numbers {
			for _, lock := range locks {
				l = append(l, takes(lock, who))
			}
			l = append(l, counts(number))
			for _, lock := range locks {
				l = append(l, frees(lock, who))
			}
		}
		return &trial.Thread{Worker: who, Makers: []func() mem.Frame{trial.MakeActs(l...)}}
	}
}

// world is threads on one memory, and which holds are done, and aren't dropped, by their workers.
type world struct {
	t       *testing.T
	m       *mem.Mem
	threads []*trial.Thread
	held    map[int]*Hold
	// polite says whether no table comes to count while somebody has a lock.
	polite bool
	// left is how many steps there may be yet.
	left int
}

// newWorld is a world of tables of 1, 2, 4 and 8 buckets, whose threads are made anew.
func newWorld(t *testing.T, workers int, polite bool, makers []maker) *world {
	t.Helper()
	m, _ := mem.New(1, workers)
	for _, n := range []int{2, 4, 8} {
		trial.NewTable(t, m, n)
	}
	w := &world{t: t, m: m, held: map[int]*Hold{}, polite: polite, left: 5000}
	for _, maker := range makers {
		w.threads = append(w.threads, maker())
	}
	return w
}

// Ready are the threads that are ready.
func (w *world) Ready() []int { return trial.Ready(w.m, w.threads) }

// Step has a thread take its step, and looks at P8.2.
func (w *world) Step(i int) {
	w.t.Helper()
	if w.left--; w.left < 0 {
		w.t.Fatal("there are more steps than there may be")
	}
	x := w.threads[i]
	f, done := x.Step(w.m)
	h, ok := f.(*Hold)
	switch {
	case ok && done:
		w.ended(x.Worker, h)
	case ok:
		w.onItsWay(x.Worker, h)
	case w.held[x.Worker] != nil:
		w.dropped(x.Worker)
	}
	w.check()
}

// ended says whether a hold that is done has the lock that it has to have, and its worker no other one.
func (w *world) ended(worker int, h *Hold) {
	w.t.Helper()
	now := w.m.Now()
	if h.Desc() != now || h.Lock() != trial.LockOf(h.sum, now.N) || !slices.Equal(w.m.Locks.Held(worker), []int{h.Lock()}) {
		w.t.Fatalf("%v counts, of the sum %d a hold has %v, %d, its worker has %v", now, h.sum, h.Desc(), h.Lock(), w.m.Locks.Held(worker))
	}
	w.held[worker] = h
}

// onItsWay says whether a hold that isn't done tells nothing, and its worker has one lock at most.
func (w *world) onItsWay(worker int, h *Hold) {
	w.t.Helper()
	if h.Desc() != (mem.Desc{}) || h.Lock() != -1 || len(w.m.Locks.Held(worker)) > 1 {
		w.t.Fatalf("a hold on its way has %v, %d, its worker has %v", h.Desc(), h.Lock(), w.m.Locks.Held(worker))
	}
}

// dropped says whether a worker whose hold is dropped has no lock.
func (w *world) dropped(worker int) {
	w.t.Helper()
	if h := w.held[worker]; h.Lock() != -1 || len(w.m.Locks.Held(worker)) != 0 {
		w.t.Fatalf("a hold that is dropped has %d, its worker has %v", h.Lock(), w.m.Locks.Held(worker))
	}
	delete(w.held, worker)
}

// check says whether each hold that is done has its lock yet; and, if all are polite, of the table that counts.
func (w *world) check() {
	w.t.Helper()
	for worker, h := range w.held {
		if w.m.Locks.Holder(h.Lock()) != worker || w.polite && h.Desc() != w.m.Now() {
			w.t.Fatalf("%v counts, the hold of %d has %v, %d, whose holder is %d", w.m.Now(), worker, h.Desc(), h.Lock(), w.m.Locks.Holder(h.Lock()))
		}
	}
}

// End says whether all threads are done, and no lock is held.
func (w *world) End() {
	w.t.Helper()
	for i, x := range w.threads {
		if x.Left() {
			w.t.Fatalf("nobody is ready, thread %d isn't done", i)
		}
	}
	for lock := range w.m.Locks.Len() {
		if who := w.m.Locks.Holder(lock); who != -1 {
			w.t.Fatalf("all are done, the holder of the lock %d is %d", lock, who)
		}
	}
}

// P8.2: however the steps of those who hold buckets and of one who has other tables count are mixed, by the locks or without, a hold that is done has the lock of its sum's bucket, of the table that counts then, and its worker no other one by it; behind that no other table counts while it has it, if that is done by the locks; and all are done.
func TestAllWays(t *testing.T) {
	all := []int{1, 2, 3, 4}
	cases := []struct {
		name   string
		polite bool
		makers []maker
	}{
		{"one, and one without locks", false, []maker{writer(0, 7, 6), rude(3, 1, 2, 0)}},
		{"one, and one without locks, to and fro", false, []maker{writer(0, 7, 7), rude(3, 0, 3, 0)}},
		{"two of one lock, and one without locks", false, []maker{writer(0, 7), writer(1, 7), rude(3, 2)}},
		{"two of one lock or of two, and one without locks", false, []maker{writer(0, 7), writer(1, 5), rude(3)}},
		{"one, and one by the locks", true, []maker{writer(0, 7, 6), polite(1, all, 3)}},
		{"one, and one by the locks, twice", true, []maker{writer(0, 7), polite(1, all, 3, 1)}},
		{"two, and one by the locks", true, []maker{writer(0, 7), writer(1, 6), polite(2, []int{1, 2}, 1)}},
	}
	for _, c := range cases {
		if ends := trial.Explore(func() trial.World { return newWorld(t, 3, c.polite, c.makers) }); ends < 500 {
			t.Errorf("%s: there are %d ways alone", c.name, ends)
		}
	}
}

// P8.2: the same for many threads, of memories of 1 to 8 workers, in ways that are picked.
func TestManyWays(t *testing.T) {
	for workers := 1; workers <= mostWorkers; workers++ {
		for seed := range uint32(100) {
			next := trial.Picker(seed*mostWorkers + uint32(workers))
			var makers []maker
			for worker := range workers {
				var l []uint32
				for range 12 {
					l = append(l, sums()[next(len(sums()))])
				}
				makers = append(makers, writer(worker, l...))
			}
			var numbers []int
			for range 9 {
				numbers = append(numbers, next(4))
			}
			isPolite := next(2) == 0
			if isPolite {
				makers = append(makers, polite(workers, []int{5, 1, 2, 3, 4}, numbers...))
			} else {
				makers = append(makers, rude(numbers...))
			}
			trial.Run(newWorld(t, workers, isPolite, makers), next)
		}
	}
}

// plain is a hold told by its chapter's words, whose steps have the chapter's numbers; behind the last one it is at 0.
type plain struct {
	worker int
	sum    uint32
	at     int
	number uint64
	desc   mem.Desc
	lock   int
	has    bool
}

// plainMem is what a plain hold uses.
type plainMem struct {
	current uint64
	holders []int
	tables  []mem.Desc
}

// lockFor is the lock of a sum, of the table of a number, and that table; lock 1, if there is none.
func (m *plainMem) lockFor(sum uint32, number uint64) (mem.Desc, int) {
	if number >= uint64(len(m.tables)) {
		return mem.Desc{}, firstWriter
	}
	return m.tables[number], trial.LockOf(sum, m.tables[number].N)
}

// ready says whether the hold has to be ready.
func (p *plain) ready(m *plainMem) bool {
	_, lock := m.lockFor(p.sum, p.number)
	return p.at != 2 || m.holders[lock] == -1
}

// step is what the hold's step has to do, and whether it is done by it.
func (p *plain) step(m *plainMem) bool {
	if !p.ready(m) {
		return false
	}
	switch p.at {
	case 1:
		p.number, p.at = m.current, 2
	case 2:
		p.desc, p.lock = m.lockFor(p.sum, p.number)
		m.holders[p.lock], p.at = p.worker, 3
	case 3:
		if m.current == p.number {
			p.at, p.has = 0, true
			return true
		}
		p.at = 4
	case 4:
		m.holders[p.lock], p.at = -1, 1
	}
	return false
}

// drop is what the hold's Drop has to do, and whether it was dropped by it.
func (p *plain) drop(m *plainMem) bool {
	if !p.has {
		return false
	}
	m.holders[p.lock], p.has = -1, false
	return true
}

// told is what the hold has to tell.
func (p *plain) told() (mem.Desc, int) {
	if !p.has {
		return mem.Desc{}, -1
	}
	return p.desc, p.lock
}

// pair is a hold, and the plain one that tells what it has to do.
type pair struct {
	h *Hold
	p *plain
}

// row is a memory, what it has to be, and holds of its workers that are on their way.
type row struct {
	next  func(n int) int
	m     *mem.Mem
	want  trial.Seen
	p     *plainMem
	pairs []pair
}

// somebody is the number of one who takes locks by something else than a hold.
const somebody = 1000

// newPair is a pair of any worker that there is, and any sum.
func (r *row) newPair() pair {
	worker, sum := r.next(r.m.Workers()), sums()[r.next(len(sums()))]
	return pair{New(worker, sum), &plain{worker: worker, sum: sum, at: 1}}
}

// newRow is a row.
func newRow(t *testing.T, workers int) *row {
	t.Helper()
	m := newMem(t, workers)
	want := trial.Look(m)
	p := &plainMem{holders: slices.Clone(want.Holders), tables: slices.Clone(want.Tables)}
	r := &row{next: trial.Picker(uint32(workers)), m: m, want: want, p: p}
	for range 5 {
		r.pairs = append(r.pairs, r.newPair())
	}
	return r
}

// disturb does something that others may do: a table is made, or comes to count, of whatever number, or a lock is taken, or freed.
func (r *row) disturb(t *testing.T) {
	t.Helper()
	lock := firstWriter + r.next(4)
	switch r.next(12) {
	case 0:
		if len(r.p.tables) < 9 {
			i := trial.NewTable(t, r.m, sizes()[r.next(7)])
			r.p.tables = append(r.p.tables, descOf(t, r.m, i))
			before := r.want.Words
			r.want.Words = append(slices.Clone(before), make([]uint64, r.m.Cells.Len()-len(before))...)
		}
	case 1:
		r.p.current = trial.Words()[r.next(len(trial.Words()))]
	case 2, 3:
		if r.p.holders[lock] == -1 {
			r.m.Locks.Try(lock, somebody)
			r.p.holders[lock] = somebody
		}
	case 4, 5, 6, 7:
		if r.p.holders[lock] == somebody {
			r.m.Locks.Free(lock, somebody)
			r.p.holders[lock] = -1
		}
	default:
		r.p.current = uint64(r.next(len(r.p.tables)))
	}
	r.m.Cells.Store(currentCell, r.p.current)
}

// step has one of the holds take its step, ready or not, or drops it, and says whether it is done.
func (r *row) step(t *testing.T) bool {
	t.Helper()
	place := r.next(len(r.pairs))
	x := r.pairs[place]
	if r.next(3) == 0 {
		if dropped := x.h.Drop(r.m); dropped != x.p.drop(r.p) {
			t.Fatalf("of %v, of %v: Drop = %v", *r.p, *x.p, dropped)
		}
	}
	if x.p.at == 0 {
		if !x.p.has {
			r.pairs[place] = r.newPair()
		}
		return false
	}
	if ready := x.h.Ready(r.m); ready != x.p.ready(r.p) {
		t.Fatalf("of %v, of %v: Ready = %v", *r.p, *x.p, ready)
	}
	done := x.h.Step(r.m)
	if done != x.p.step(r.p) {
		t.Fatalf("of %v, of %v: Step = %v", *r.p, *x.p, done)
	}
	return done
}

// check says whether the memory is what it has to be, and each hold tells what it has to, too.
func (r *row) check(t *testing.T) {
	t.Helper()
	for _, x := range r.pairs {
		desc, lock := x.p.told()
		checkHas(t, x.h, desc, lock, "a row of steps")
	}
	want := r.want.Word(currentCell, r.p.current)
	want.Holders, want.Tables = r.p.holders, r.p.tables
	want.Check(t, r.m, "a row of steps")
}

// P8.1: long rows of steps of holds beside each other, several of one worker among them, taken whenever, ready or not, and of Drops, of whatever tables, locks that others hold, and numbers that no table has: each does what its chapter says, and nothing else.
func TestRow(t *testing.T) {
	for workers := 1; workers <= mostWorkers; workers++ {
		r := newRow(t, workers)
		done := 0
		for range 8000 {
			if r.next(6) == 0 {
				r.disturb(t)
			}
			if r.step(t) {
				done++
			}
			r.check(t)
		}
		if done < 150 || len(r.p.tables) != 9 {
			t.Errorf("of %d workers %d holds alone were done, there are %d tables", workers, done, len(r.p.tables))
		}
	}
}
