package machine

import (
	"slices"
	"testing"

	"quietus/api"
	"quietus/arena"
	"quietus/calls"
	"quietus/mem"
	"quietus/trial"
	"quietus/worker"
)

// These are written out, so that the tests don't lean on the names that they hold.
const (
	mostWorkers  = 8
	mostCalls    = 50
	mostNodes    = 1024
	mostSteps    = 200000
	firstCounter = 2
	periodLock   = 0
	resizeLock   = 5
	// somebody is the number of one who has locks, and is no thread.
	somebody = 1000
)

// twin is a machine, and, of another memory of its room, workers and one that frees, as layer 17 has them, which are played beside it, and tell what each step has to come to.
type twin struct {
	t       *testing.T
	x       *Machine
	m, o    *mem.Mem
	workers []*worker.Worker
	d       *worker.Drainer
	// turns are all threads, the one that frees by the number behind the workers', in the order in which they were chosen last, behind those that never were.
	turns   []int
	steps   int
	history []worker.Entry
}

// newTwin is a twin that took no step.
func newTwin(t *testing.T, room int, l [][]calls.Call) *twin {
	t.Helper()
	x, e := New(room, l)
	o, _ := mem.New(room, len(l))
	if e != api.OK {
		t.Fatalf("New(%d, %v) = %v", room, l, e)
	}
	w := &twin{t: t, x: x, m: x.Mem(), o: o, d: worker.NewDrainer(len(l)), turns: []int{0}}
	for number, own := range l {
		w.workers = append(w.workers, worker.New(number, own))
		w.turns = append(w.turns, number+1)
	}
	w.tells("New")
	w.same("New")
	return w
}

// frees is the number by which the one that frees is among the threads.
func (w *twin) frees() int { return len(w.workers) }

// can says whether a thread is ready.
func (w *twin) can(thread int) bool {
	if thread == w.frees() {
		return w.d.Ready(w.o)
	}
	return w.workers[thread].Ready(w.o)
}

// ready are the threads that are ready, in order.
func (w *twin) ready() []int {
	return slices.Sorted(slices.Values(slices.DeleteFunc(slices.Clone(w.turns), func(thread int) bool { return !w.can(thread) })))
}

// left says whether a call is on its way, or left.
func (w *twin) left() bool { return slices.ContainsFunc(w.workers, (*worker.Worker).Left) }

// over says whether it has to be over.
func (w *twin) over() bool { return !w.left() && w.o.Waiting() == 0 && w.d.Idle() }

// flight are the handles that only one thread has to know of.
func (w *twin) flight() []arena.Handle {
	var l []arena.Handle
	for _, x := range w.workers {
		l = append(l, x.Mine())
	}
	l = slices.DeleteFunc(l, func(h arena.Handle) bool { return h == 0 })
	return append(l, w.d.Left()...)
}

// tells says whether the machine tells what it has to, also where what it handed out was changed.
func (w *twin) tells(what string) {
	w.t.Helper()
	for range 2 {
		if is := w.x.Over(); is != w.over() {
			w.t.Fatalf("%s, behind %d steps: Over = %v", what, w.steps, is)
		}
		if is := w.x.Steps(); is != w.steps {
			w.t.Fatalf("%s, behind %d steps: Steps = %d", what, w.steps, is)
		}
		if w.x.Mem() != w.m {
			w.t.Fatalf("%s, behind %d steps: Mem is another one", what, w.steps)
		}
		history, flight := w.x.History(), w.x.Flight()
		if !slices.Equal(history, w.history) {
			w.t.Fatalf("%s, behind %d steps: History = %v, not %v", what, w.steps, history, w.history)
		}
		if !slices.Equal(flight, w.flight()) {
			w.t.Fatalf("%s, behind %d steps: Flight = %v, not %v", what, w.steps, flight, w.flight())
		}
		spoil(history, worker.Entry{Worker: somebody})
		spoil(flight, somebody)
	}
}

// spoil changes a list that was handed out, with the room behind its end.
func spoil[E any](l []E, e E) {
	for i := range l[:cap(l)] {
		l[:cap(l)][i] = e
	}
}

// same says whether both memories are.
func (w *twin) same(what string) {
	w.t.Helper()
	trial.Look(w.o).Check(w.t, w.m, what)
}

// choose is the thread that a pick has to choose, which is behind all others then.
func (w *twin) choose(pick int) int {
	ready := w.ready()
	thread := w.turns[slices.IndexFunc(w.turns, w.can)]
	if pick >= 0 {
		thread = ready[pick%len(ready)]
	}
	w.turns = append(slices.DeleteFunc(w.turns, func(other int) bool { return other == thread }), thread)
	return thread
}

// play has the twin's thread take its step: which one, or -1, if none is ready.
func (w *twin) play(pick int) int {
	if len(w.ready()) == 0 {
		return -1
	}
	thread := w.choose(pick)
	if thread == w.frees() {
		w.d.Step(w.o)
	} else if e, done := w.workers[thread].Step(w.o, w.steps); done {
		w.history = append(w.history, e)
	}
	w.steps++
	return thread
}

// take has the machine take a step by a pick, and is the thread that has to take it, or -1, if none is ready.
func (w *twin) take(pick int) int {
	w.t.Helper()
	thread := w.play(pick)
	if is := w.x.Step(pick); is != (thread >= 0) {
		w.t.Fatalf("behind %d steps: Step(%d) = %v, the thread is %d", w.steps, pick, is, thread)
	}
	w.tells("a step")
	return thread
}

// step does the same, and looks at the memories.
func (w *twin) step(pick int) int {
	w.t.Helper()
	thread := w.take(pick)
	w.same("a step")
	return thread
}

// have has a thread that is ready take its step.
func (w *twin) have(thread int) {
	w.t.Helper()
	pick := slices.Index(w.ready(), thread)
	if pick < 0 {
		w.t.Fatalf("behind %d steps the thread %d isn't ready", w.steps, thread)
	}
	w.take(pick)
}

// goOn has it take steps by turns as long as a thread is ready, and says how many.
func (w *twin) goOn() int {
	w.t.Helper()
	n := 0
	for w.take(-1) >= 0 {
		n++
	}
	w.same("steps by turns")
	return n
}

// run has the machine run by these picks, which has to come to that error.
func (w *twin) run(picks []int, want api.Errno) {
	w.t.Helper()
	e := w.x.Run(picks)
	steps := w.steps
	for ; !w.over() && w.steps < steps+mostSteps; picks = picks[min(1, len(picks)):] {
		pick := -1
		if len(picks) > 0 {
			pick = picks[0]
		}
		if w.play(pick) < 0 {
			break
		}
	}
	if e != want {
		w.t.Fatalf("behind %d steps: Run = %v, not %v", w.x.Steps(), e, want)
	}
	w.tells("Run")
	w.same("Run")
}

// each does something to both memories.
func (w *twin) each(do func(m *mem.Mem)) {
	do(w.m)
	do(w.o)
}

// pickAny is a pick of any kind: often of one that is there, now and then a great one, or one below 0.
func pickAny(next func(n int) int) int {
	if next(4) == 0 {
		return wide()[next(len(wide()))]
	}
	return next(mostWorkers+1) - 1
}
