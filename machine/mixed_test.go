package machine

import (
	"slices"
	"testing"

	"quietus/api"
	"quietus/calls"
	"quietus/plainmap"
	"quietus/trial"
	"quietus/worker"
)

// world is a machine beside its twin, whose steps are taken by picks.
type world struct {
	*twin
	lists [][]calls.Call
	// own are the steps that each worker took for its call on its way, and full says whether ahead of one of them no place was free.
	own  [][]int
	full []bool
	// done is, of each worker, how many calls are.
	done []int
	// longest is the most steps that a get took.
	longest int
}

// newWorld is a world of a plan.
func newWorld(t *testing.T, p plainmap.Plan) *world {
	t.Helper()
	n := len(p.Lists)
	w := &world{twin: newTwin(t, p.Room, p.Lists), lists: p.Lists, own: make([][]int, n), full: make([]bool, n), done: make([]int, n)}
	for thread, steps := range p.Ahead {
		for range steps {
			w.thread(thread)
		}
	}
	return w
}

// thread has a thread that is ready take its step.
func (w *world) thread(thread int) { w.Step(slices.Index(w.ready(), thread)) }

// Ready are picks, one for each thread that is ready. As long as a call is on its way, or left, there is one; and as long as it isn't over.
func (w *world) Ready() []int {
	w.t.Helper()
	n := len(w.ready())
	if n == 0 && (w.left() || !w.x.Over()) {
		w.t.Fatalf("behind %d steps no thread is ready, a call is left: %v", w.steps, w.left())
	}
	picks := make([]int, n)
	for pick := range picks {
		picks[pick] = pick
	}
	return picks
}

// Step has the thread of a pick take its step, which comes to what it comes to in the twin, and looks at what there is, and at the call that is done by it.
func (w *world) Step(pick int) {
	w.t.Helper()
	full, now := w.o.Arena.Spare() == 0, w.steps
	thread := w.step(pick)
	if thread < 0 {
		w.t.Fatalf("behind %d steps none is ready", now)
	}
	if thread < w.frees() {
		w.own[thread] = append(w.own[thread], now)
		w.full[thread] = w.full[thread] || full
		if n := len(w.history); n > 0 && w.history[n-1].End == now {
			w.fits(w.history[n-1], thread)
			w.own[thread], w.full[thread] = nil, false
		}
	}
	trial.Places(w.t, w.m, w.x.Flight())
}

// fits says whether an entry is that of the next call of the worker that took the step, from the first one of the steps that it took on to the last one; of a get these are few, and a put is refused just where no place was free.
func (w *world) fits(e worker.Entry, thread int) {
	w.t.Helper()
	own, index := w.own[thread], w.done[thread]
	w.done[thread]++
	if e.Worker != thread || e.Index != index || e.Call != w.lists[thread][index] || e.Begin != own[0] || e.End != own[len(own)-1] {
		w.t.Fatalf("the worker %d took the steps %v, the entry is %v", thread, own, e)
	}
	if e.Call.Kind == calls.Get {
		w.longest = max(w.longest, len(own))
	}
	if e.Call.Kind == calls.Get && len(own) > 5+w.m.Arena.Room() || e.Result.Err == api.ErrFull && !w.full[thread] {
		w.t.Fatalf("behind the steps %v, ahead of one of which no place was free: %v, the entry is %v", own, w.full[thread], e)
	}
}

// End says whether, as no thread is ready any more, it is over, each call is done, nothing waits, or is one thread's, no lock is held, each place is free, or has a key of its own, and the history can be told call by call.
func (w *world) End() {
	w.t.Helper()
	if !w.x.Over() || w.m.Waiting() > 0 || len(w.x.Flight()) > 0 || w.m.Arena.Fault() {
		w.t.Fatalf("no thread is ready, Over = %v, %d wait, Flight = %v", w.x.Over(), w.m.Waiting(), w.x.Flight())
	}
	for number, l := range w.lists {
		if w.done[number] != len(l) {
			w.t.Fatalf("of %d calls of the worker %d %d are done", len(l), number, w.done[number])
		}
	}
	keys := map[string]bool{}
	for _, h := range w.m.Reach() {
		node, _ := w.m.Arena.Read(h)
		keys[node.Key] = true
	}
	if len(keys) != len(w.m.Reach()) || len(keys)+w.m.Arena.Spare() != w.m.Arena.Room() {
		w.t.Fatalf("these keys are there: %v, reached are %v, %d are free", keys, w.m.Reach(), w.m.Arena.Spare())
	}
	trial.AtRest(w.t, w.m)
	w.isTold()
}

// P18.1, P18.2, P18.3, W1 to W4: in all ways of a few short calls of several workers, in small arenas, with the one that frees: each step comes to what it comes to in the twin; as long as a call is on its way, or left, a thread is ready; each place is free, reached, waiting, or in Flight, one of these alone, ahead of each step; the arena's flag is down; a get takes few steps of its worker's; at the end all calls are done, no lock is held, and the history can be told call by call.
func TestAllWays(t *testing.T) {
	plainmap.FewWays(t, func(p plainmap.Plan) trial.World { return newWorld(t, p) })
}

// P18.1, P18.2, P18.3, W1 to W4: the same of 1 to 8 workers, of many calls, by picks of any kind.
func TestManyWays(t *testing.T) {
	entries, full := 0, 0
	for workers := 1; workers <= mostWorkers; workers++ {
		for seed := range uint32(30) {
			next := trial.Picker(seed*mostWorkers + uint32(workers))
			w := newWorld(t, plainmap.PickPlan(next, workers, 12))
			for len(w.Ready()) > 0 {
				w.Step(pickAny(next))
			}
			w.End()
			entries += len(w.history)
			for _, e := range w.history {
				if e.Result.Err == api.ErrFull {
					full++
				}
			}
		}
	}
	if entries < 5000 || full < 100 {
		t.Errorf("%d calls are done, %d are refused alone", entries, full)
	}
}

// P18.1, P18.2, P18.3, W1 to W4: the same run by turns, and by picks that have one thread go on as long as it may, whichever.
func TestByTurns(t *testing.T) {
	for workers := 1; workers <= mostWorkers; workers++ {
		for pick := -1; pick <= workers; pick++ {
			for seed := range uint32(4) {
				next := trial.Picker(seed + uint32(workers)*64)
				w := newWorld(t, plainmap.PickPlan(next, workers, 12))
				for len(w.Ready()) > 0 {
					w.Step(pick)
				}
				w.End()
			}
		}
	}
}

// P18.2, W1: of machines of many calls, up to as many as there may be, run by picks of any kind, all calls are done, the flag is down, no lock is held, and the history can be told call by call.
func TestCrowds(t *testing.T) {
	for seed := range uint32(60) {
		next := trial.Picker(seed)
		w := newTwin(t, 1+next(40), plainmap.PickLists(next, 2+next(mostWorkers-1), mostCalls))
		w.run(pickPicks(next, next(9000)), api.OK)
		if w.m.Arena.Fault() || !w.x.Over() {
			t.Fatalf("Over = %v, the flag is up: %v", w.x.Over(), w.m.Arena.Fault())
		}
		trial.AtRest(t, w.m)
		w.isTold()
	}
}
