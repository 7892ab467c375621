package worker

import (
	"cmp"
	"slices"
	"testing"

	"quietus/calls"
	"quietus/mem"
	"quietus/plainmap"
	"quietus/trial"
)

// world is workers, and one that frees, of one memory, beside their twins.
type world struct {
	t       *testing.T
	m       *mem.Mem
	workers []*pair
	d       *freeing
	// now is how many steps there were, own those that each worker took, in order, and entries how many calls are done.
	now     int
	own     [][]int
	entries int
}

// newWorld is a world of a plan.
func newWorld(t *testing.T, p plainmap.Plan) *world {
	t.Helper()
	m, _ := mem.New(p.Room, len(p.Lists))
	o, _ := mem.New(p.Room, len(p.Lists))
	w := &world{t: t, m: m, d: newFreeing(t, m, o, len(p.Lists)), own: make([][]int, len(p.Lists))}
	for number, l := range p.Lists {
		w.workers = append(w.workers, newPair(t, m, o, number, l))
	}
	for i, steps := range p.Ahead {
		for range steps {
			w.Step(i)
		}
	}
	return w
}

// Ready are the workers that are ready, and, by the number behind theirs, the one that frees. As long as a call is left somebody has to be.
func (w *world) Ready() []int {
	w.t.Helper()
	var l []int
	left := false
	for i, x := range w.workers {
		if x.w.Ready(w.m) {
			l = append(l, i)
		}
		left = left || x.w.Left()
	}
	if w.d.d.Ready(w.m) {
		l = append(l, len(w.workers))
	}
	if left && len(l) == 0 {
		w.t.Fatal("a call is left, and nobody is ready")
	}
	return l
}

// Step has one of them take its step, by which the others come to nothing but what that is to them, and looks at where all places are.
func (w *world) Step(i int) {
	w.t.Helper()
	if i == len(w.workers) {
		w.d.take()
	} else {
		w.own[i] = append(w.own[i], w.now)
		if w.workers[i].take(w.now) {
			w.fits(i)
		}
	}
	w.now++
	for _, x := range w.workers {
		x.tells("a step beside the steps")
	}
	w.d.tells("a step beside the steps")
	w.account()
}

// fits says whether the call that is done began, and ended, by the steps that its worker took, and a get of a small memory is as short as it has to be.
func (w *world) fits(i int) {
	w.t.Helper()
	x := w.workers[i]
	w.entries++
	own := w.own[i][len(w.own[i])-x.steps:]
	c := x.l[x.index-1]
	if x.begin != own[0] || own[len(own)-1] != w.now || c.Kind == calls.Get && len(own) > 5+w.m.Arena.Room() {
		w.t.Fatalf("%#v began by the step %d, its worker's steps are %v", c, x.begin, own)
	}
	w.own[i] = nil
}

// account says whether each place is free, or reached, or waits, or one alone knows of it.
func (w *world) account() {
	w.t.Helper()
	trial.Look(w.d.o).Check(w.t, w.m, "a step")
	alone := w.d.d.Left()
	for _, x := range w.workers {
		if h := x.w.Mine(); h != 0 {
			alone = append(alone, h)
		}
	}
	trial.Places(w.t, w.m, alone)
}

// End says whether all calls are done, and all that waited is freed, as nobody is ready any more; no lock is held, nobody is in.
func (w *world) End() {
	w.t.Helper()
	entries := 0
	for _, x := range w.workers {
		entries += len(x.l)
		if x.w.Left() || x.left() {
			w.t.Fatalf("nobody is ready: %s", x.what("behind all steps"))
		}
	}
	if entries != w.entries || !w.d.d.Idle() || w.m.Waiting() > 0 {
		w.t.Fatalf("of %d calls %d are done, Idle = %v, %d wait", entries, w.entries, w.d.d.Idle(), w.m.Waiting())
	}
	trial.AtRest(w.t, w.m)
}

// P17.1, P17.2, W2 to W4: however the steps of workers, and of the one that frees, are mixed, each comes to what the calls (layer 16), and the drains (layer 7), come to in the same memory; each entry's Begin and End are those of the steps that its worker was handed; each place is free, reached, waiting, in Left, or some worker's Mine, one of these alone, ahead of each step; the flag stays down; somebody is ready till all calls are done, and all that waits is freed.
func TestAllWays(t *testing.T) {
	plainmap.FewWays(t, func(p plainmap.Plan) trial.World { return newWorld(t, p) })
}

// P17.1, P17.2, W2 to W4: the same of 1 to 8 workers, of many calls, in ways that are picked.
func TestManyWays(t *testing.T) {
	drains := 0
	for workers := 1; workers <= mostWorkers; workers++ {
		for seed := range uint32(30) {
			next := trial.Picker(seed*mostWorkers + uint32(workers))
			w := newWorld(t, plainmap.PickPlan(next, workers, 11))
			trial.Run(w, next)
			drains += w.d.drains
		}
	}
	if drains < 300 {
		t.Errorf("%d drains are done alone", drains)
	}
}

// byTurns has them take their steps by turns: of those that are ready that one goes on that did so longest ago.
func byTurns(w *world) {
	last := make([]int, len(w.workers)+1)
	for ready := w.Ready(); len(ready) > 0; ready = w.Ready() {
		i := slices.MinFunc(ready, func(i, j int) int { return cmp.Compare(last[i], last[j]) })
		w.Step(i)
		last[i] = w.now
	}
	w.End()
}

// P17.1, P17.2, W3: the same, run by turns.
func TestByTurns(t *testing.T) {
	for workers := 1; workers <= mostWorkers; workers++ {
		for seed := range uint32(10) {
			byTurns(newWorld(t, plainmap.PickPlan(trial.Picker(seed), workers, 11)))
		}
	}
}

// rows are two rows that are the same, of two memories, with a worker of each number that there may be, and one that frees.
type rows struct {
	t       *testing.T
	is, own *trial.Row
	next    func(n int) int
	workers []*pair
	d       *freeing
	// entries is how many calls are done.
	entries int
}

// newRows are those of so many workers.
func newRows(t *testing.T, workers int, seed uint32) *rows {
	t.Helper()
	r := &rows{t: t, is: trial.NewRow(t, workers, seed), own: trial.NewRow(t, workers, seed), next: trial.Picker(seed + 99)}
	r.workers = make([]*pair, workers)
	r.d = newFreeing(t, r.is.M, r.own.M, workers)
	for number := range workers {
		r.anew(number)
	}
	return r
}

// anew has a worker of other calls, or of none, be in the place of one whose calls are done.
func (r *rows) anew(number int) {
	r.t.Helper()
	var l []calls.Call
	for range r.next(5) {
		l = append(l, plainmap.PickFew(r.next).Call)
	}
	r.workers[number] = newPair(r.t, r.is.M, r.own.M, number, l)
}

// step has a worker, or the one that frees, take a step, ready or not, of any number.
func (r *rows) step() {
	r.t.Helper()
	i := r.next(len(r.workers) + 1)
	if i == len(r.workers) {
		r.d.step()
		return
	}
	x := r.workers[i]
	if x.step(r.next(1<<16) - 1<<15) {
		r.entries++
	}
	if !x.left() && r.next(2) == 0 {
		r.anew(i)
	}
}

// P17.1, P17.2: long rows of steps of workers, and of one that frees, beside each other, ready or not, of nodes and chains that others change in whatever way, of locks that they take, of tables that come to count, and numbers that no table has: each comes to what the calls, and the drains, come to in the same memory, and tells so.
func TestRow(t *testing.T) {
	entries, drains := 0, 0
	for workers := 1; workers <= mostWorkers; workers++ {
		for seed := range uint32(15) {
			r := newRows(t, workers, seed)
			for range 900 {
				if r.next(4) == 0 {
					r.is.Disturb()
					r.own.Disturb()
				}
				r.step()
				for _, x := range r.workers {
					x.tells("a step beside the steps")
				}
				r.d.tells("a step beside the steps")
			}
			entries, drains = entries+r.entries, drains+r.d.drains
		}
	}
	if entries < 2000 || drains < 100 {
		t.Errorf("%d calls and %d drains are done alone", entries, drains)
	}
}
