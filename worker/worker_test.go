package worker

import (
	"fmt"
	"math"
	"slices"
	"testing"

	"quietus/api"
	"quietus/arena"
	"quietus/calls"
	"quietus/mem"
	"quietus/plainmap"
	"quietus/trial"
)

// These are written out, so that the tests don't lean on the names that they hold.
const (
	mostWorkers  = 8
	mostCalls    = 50
	firstCounter = 2
	periodLock   = 0
	resizeLock   = 5
	// somebody is the number of one who has locks, and is no worker.
	somebody = 1000
	// most is more steps than all calls of a worker of the tests have to take.
	most = 10000000
)

// pair is a worker, and, of a twin memory that is as the worker's own, its calls as layer 16 does them, which tell what each step has to come to.
type pair struct {
	t      *testing.T
	w      *Worker
	number int
	l      []calls.Call
	m, o   *mem.Mem
	// run is the call on its way, nil without one, begin the number of its first step, and index how many were done.
	run          *calls.Run
	begin, index int
	// steps are how many the call on its way, or the last one, took.
	steps int
}

// newPair is a pair that took no step, by whose making nothing is changed.
func newPair(t *testing.T, m, o *mem.Mem, number int, l []calls.Call) *pair {
	t.Helper()
	x := &pair{t: t, w: New(number, l), number: number, l: slices.Clone(l), m: m, o: o}
	x.tells("New")
	x.same("New")
	return x
}

// tablePair is a pair of two memories of a table of such keys.
func tablePair(t *testing.T, workers, number int, keys [][]string, full bool, l []calls.Call) *pair {
	t.Helper()
	return newPair(t, trial.TableOf(t, workers, keys, full), trial.TableOf(t, workers, keys, full), number, l)
}

// what tells where it is.
func (x *pair) what(step string) string {
	if x.index == len(x.l) {
		return fmt.Sprintf("%s of the worker %d, behind %d calls", step, x.number, x.index)
	}
	return fmt.Sprintf("%s of the worker %d, the call %d, %#v, on its way: %v", step, x.number, x.index, x.l[x.index], x.run != nil)
}

// left says whether a call is on its way, or left.
func (x *pair) left() bool { return x.index < len(x.l) }

// ready says whether it has to be ready: between two calls it is, whatever the next one would wait for.
func (x *pair) ready() bool {
	if x.run == nil {
		return x.left()
	}
	return x.run.Ready(x.o)
}

// mine is the handle that nobody else has to know of.
func (x *pair) mine() arena.Handle {
	if x.run == nil {
		return 0
	}
	return x.run.Mine()
}

// tells says whether it tells what it has to, however often it is asked.
func (x *pair) tells(what string) {
	x.t.Helper()
	for range 2 {
		if is := x.w.Left(); is != x.left() {
			x.t.Fatalf("%s: Left = %v", x.what(what), is)
		}
		if is := x.w.Ready(x.m); is != x.ready() {
			x.t.Fatalf("%s: Ready = %v", x.what(what), is)
		}
		if is := x.w.Mine(); is != x.mine() {
			x.t.Fatalf("%s: Mine = %d, not %d", x.what(what), is, x.mine())
		}
	}
}

// same says whether both memories are.
func (x *pair) same(what string) {
	x.t.Helper()
	trial.Look(x.o).Check(x.t, x.m, x.what(what))
}

// plainStep is what a step has to answer, of the number that it is handed.
func (x *pair) plainStep(now int) (want Entry, done bool) {
	if !x.left() {
		return Entry{}, false
	}
	if x.run == nil {
		x.run, x.begin, x.steps = calls.New(x.number, x.l[x.index]), now, 0
	}
	x.steps++
	if !x.run.Step(x.o) {
		return Entry{}, false
	}
	want = Entry{Worker: x.number, Index: x.index, Call: x.l[x.index], Begin: x.begin, End: now}
	want.Result, _ = x.run.Result()
	x.run = nil
	x.index++
	return want, true
}

// take has it take its step, ready or not, of this number, and says whether a call is done.
func (x *pair) take(now int) bool {
	x.t.Helper()
	is, done := x.w.Step(x.m, now)
	want, over := x.plainStep(now)
	if is != want || done != over {
		x.t.Fatalf("%s, of the number %d: Step = %#v, %v, not %#v, %v", x.what("a step"), now, is, done, want, over)
	}
	x.tells("a step")
	return done
}

// step does the same, and looks at the memories.
func (x *pair) step(now int) bool {
	x.t.Helper()
	done := x.take(now)
	x.same("a step")
	return done
}

// goOn has it take steps of numbers from this one on as long as it has to be ready, and says how many.
func (x *pair) goOn(now int) int {
	x.t.Helper()
	n := 0
	for ; x.ready() && n < most; n++ {
		x.step(now + n)
	}
	return n
}

// finish has it take all its steps, of numbers from this one on, and one behind the last one, and says how many there were.
func (x *pair) finish(now int) int {
	x.t.Helper()
	n := x.goOn(now)
	if x.left() {
		x.t.Fatalf("%s: it isn't ready", x.what("behind all steps"))
	}
	x.step(now + n)
	return n
}

// each does something to both memories.
func (x *pair) each(do func(m *mem.Mem)) {
	do(x.m)
	do(x.o)
}

// P17.1: a worker does its calls one after the other, each in as many steps as layer 16 does it in the same memory, each of which comes to the same; ahead of each step, and behind it, Left, Ready and Mine tell what they have to, of its call on its way; the entry, and true, is answered by the step by which a call is done, else the zero one, false.
func TestEachStep(t *testing.T) {
	trial.EachTable(func(keys [][]string, full bool) {
		l := plainmap.All(keys)
		tablePair(t, 1, 0, keys, full, l).finish(0)
		slices.Reverse(l)
		tablePair(t, 3, 2, keys, full, l).finish(100)
	})
}

// P17.1: the same of each call alone, of which there is no other one ahead, or behind it.
func TestEachCall(t *testing.T) {
	keys := trial.KeysByTurns(2, 3)
	for _, c := range plainmap.All(keys) {
		x := tablePair(t, 2, 1, keys, false, []calls.Call{c})
		n := x.finish(0)
		run := calls.New(1, c)
		if steps, _ := mem.Finish(trial.FreeTable(t, 2, keys), run, most); n != steps {
			t.Fatalf("%#v takes %d steps, not %d", c, n, steps)
		}
	}
}

// P17.1: whatever locks somebody has, ahead of whichever step: on its way a call is ready just when layer 16's is, also for steps that are taken though it isn't; between two calls, and ahead of the first one, a worker is ready, whatever the next one would wait for. As soon as the locks are free it goes on, and takes no step more than it would have.
func TestLocksHeld(t *testing.T) {
	keys := trial.KeysByTurns(2, 3)
	key := keys[1][0]
	for _, l := range [][]calls.Call{
		{{Kind: calls.Get, Key: key}, {Kind: calls.Put, Key: key, Val: "v"}, {Kind: calls.Delete, Key: key}},
		{{Kind: calls.Resize, Size: 4}, {Kind: calls.Resize, Size: 3}, {Kind: calls.Resize, Size: 4}, {Kind: calls.Delete, Key: "none"}},
		{{Kind: calls.Resize, Size: 1}, {Kind: 9}, {Kind: calls.Put, Key: "none"}},
	} {
		all := tablePair(t, 2, 1, keys, false, l).finish(0)
		for ahead := range all {
			for held := range 1 << 6 {
				x := tablePair(t, 2, 1, keys, false, l)
				for now := range ahead {
					x.take(now)
				}
				x.each(func(m *mem.Mem) { trial.HoldSome(m, held) })
				x.tells("locks are held")
				more := 0
				if !x.ready() {
					x.step(-2)
					x.step(-1)
				} else if x.run == nil && !calls.New(1, l[x.index]).Ready(x.o) {
					// It begins by this step, for which the call isn't ready.
					x.step(ahead)
					more = 1
				}
				x.each(trial.FreeSome)
				if n := x.finish(ahead + more); n != all-ahead {
					t.Fatalf("behind %d steps, %b being held, it takes %d more, not %d", ahead, held, n, all-ahead)
				}
			}
		}
	}
}

// P17.1: a call that isn't ready for its first step begins by it all the same: it is on its way then, and isn't ready, and its entry's Begin is that step's number.
func TestBeginsAndWaits(t *testing.T) {
	m, _ := mem.New(1, 1)
	m.Locks.Try(resizeLock, somebody)
	w := New(0, []calls.Call{{Kind: calls.Resize, Size: 3}, {Kind: calls.Resize, Size: 2}})
	w.Step(m, 5)
	before := trial.Look(m)
	for now := 6; now < 10; now++ {
		if ready := w.Ready(m); ready != (now == 6) {
			t.Fatalf("ahead of the step %d Ready = %v", now, ready)
		}
		if e, done := w.Step(m, now); e != (Entry{}) || done || !w.Left() || w.Mine() != 0 {
			t.Fatalf("though the lock is held, Step = %v, %v", e, done)
		}
		before.Check(t, m, "the lock is held")
	}
	m.Locks.Free(resizeLock, somebody)
	for now := 10; w.Left(); now++ {
		if !w.Ready(m) {
			t.Fatal("the lock is free, it isn't ready")
		}
		if e, done := w.Step(m, now); done && (e.Begin != 6 || e.Index != 1 || e.End != now || m.Now().N != 2) {
			t.Fatalf("the entry is %#v", e)
		}
	}
}

// P17.1: while another worker is in, a resize waits for it behind its turn, whichever worker's it is; Ready tells so, and calls behind it don't begin.
func TestWaitsForReaders(t *testing.T) {
	keys := trial.KeysByTurns(2, 3)
	l := []calls.Call{{Kind: calls.Get, Key: "a"}, {Kind: calls.Resize, Size: 4}, {Kind: calls.Put, Key: "a", Val: "x"}, {Kind: calls.Get, Key: "a"}}
	for workers := 2; workers <= mostWorkers; workers++ {
		for worker := range workers {
			other := (worker + 1) % workers
			x := tablePair(t, workers, worker, keys, false, l)
			x.each(func(m *mem.Mem) { m.Cells.Store(firstCounter+other, 7) })
			n := x.goOn(0)
			if x.index != 1 || x.run == nil || x.w.Ready(x.m) || !x.w.Left() {
				t.Fatalf("%s: it doesn't wait", x.what("behind its steps"))
			}
			x.step(n)
			x.each(func(m *mem.Mem) { m.Cells.Store(firstCounter+other, 0) })
			x.finish(n + 1)
		}
	}
}

// numbers are rows of numbers that steps may be handed, each by how many there were ahead of it.
func numbers() map[string]func(i int) int {
	next := trial.Picker(3)
	return map[string]func(i int) int{
		"from 0 on":             func(i int) int { return i },
		"with gaps":             func(i int) int { return i*i + 17 },
		"from below 0 on":       func(i int) int { return i - 20 },
		"one":                   func(int) int { return 7 },
		"none but 0":            func(int) int { return 0 },
		"falling":               func(i int) int { return 20 - i },
		"from the least one on": func(i int) int { return math.MinInt + i },
		"up to the greatest":    func(i int) int { return math.MaxInt - 400 + min(i, 400) },
		"the ends by turns":     func(i int) int { return []int{math.MinInt, math.MaxInt, 0, -1}[i%4] },
		"low bits alone":        func(i int) int { return i << 32 },
		"any":                   func(int) int { return next(1<<20) - 1<<19 },
	}
}

// P17.1: an entry's Begin and End are the numbers that were handed to the step in which the call began, and to that by which it was done, whatever these numbers are; of a call of one step they are one.
func TestNumbers(t *testing.T) {
	keys := trial.KeysByTurns(2, 3)
	for name, number := range numbers() {
		x := tablePair(t, 2, 1, keys, false, plainmap.All(keys))
		for i := range most {
			if !x.left() {
				break
			}
			x.take(number(i))
		}
		x.same("behind all steps, the numbers " + name)
	}
}

// P17.1: an entry's Worker is the number that New was handed, whatever that is, its Index counts from 0 on, and its Call is the one that was handed in, with all its fields, also where they don't matter, and where the call is refused.
func TestWhoever(t *testing.T) {
	long := fmt.Sprintf("%033d", 0)
	for _, number := range append(trial.NotWorkers(), 0, 1, 2) {
		m, _ := mem.New(2, 3)
		l := []calls.Call{{Kind: calls.Get, Key: "a", Val: long, Size: number}, {Kind: 4, Key: "k", Val: "v", Size: 2}, {Kind: calls.Resize, Key: long, Val: long, Size: 3}, {}, {Kind: calls.Put, Key: "a", Val: long, Size: 1}}
		want := []calls.Result{{}, {Err: api.ErrForm}, {Err: api.ErrSize}, {Err: api.ErrKey}, {Err: api.ErrKey}}
		begins, ends := []int{1, 6, 7, 8, 9}, []int{5, 6, 7, 8, 9}
		w := New(number, l)
		var is []Entry
		for now := 1; w.Left(); now++ {
			if e, done := w.Step(m, now); done {
				is = append(is, e)
			}
		}
		for i, e := range is {
			if e != (Entry{Worker: number, Index: i, Call: l[i], Begin: begins[i], End: ends[i], Result: want[i]}) {
				t.Fatalf("of the worker %d the entry %d is %#v", number, i, e)
			}
		}
		if len(is) != len(l) {
			t.Fatalf("of the worker %d there are %d entries", number, len(is))
		}
	}
}

// done does all calls of a worker, the steps counted from 0 on, and is their entries.
func done(t *testing.T, m *mem.Mem, w *Worker) []Entry {
	t.Helper()
	var l []Entry
	for now := 0; w.Left(); now++ {
		if !w.Ready(m) {
			t.Fatalf("ahead of the step %d it isn't ready", now)
		}
		if e, done := w.Step(m, now); done {
			l = append(l, e)
		} else if e != (Entry{}) {
			t.Fatalf("by the step %d no call is done, the entry is %#v", now, e)
		}
	}
	return l
}

// P17.1: entries, written out: of each kind, with and without an error.
func TestEntries(t *testing.T) {
	m, _ := mem.New(2, 1)
	l := []calls.Call{
		{Kind: calls.Get, Key: "a"},
		{Kind: calls.Put, Key: "a", Val: "x"},
		{Kind: calls.Put, Key: "a", Val: "y"},
		{Kind: calls.Put, Key: "b"},
		{Kind: calls.Get, Key: "a"},
		{Kind: calls.Resize, Size: 1},
		{Kind: calls.Resize, Size: -1},
		{Kind: -1},
		{Kind: calls.Get},
		{Kind: calls.Delete, Key: "a"},
		{Kind: calls.Delete, Key: "a"},
	}
	want := []struct {
		begin, end int
		calls.Result
	}{
		{0, 4, calls.Result{}},
		{5, 11, calls.Result{}},
		{12, 20, calls.Result{Had: true}},
		{21, 27, calls.Result{Err: api.ErrFull}},
		{28, 33, calls.Result{Had: true, Val: "y"}},
		{34, 43, calls.Result{}},
		{44, 44, calls.Result{Err: api.ErrSize}},
		{45, 45, calls.Result{Err: api.ErrForm}},
		{46, 46, calls.Result{Err: api.ErrKey}},
		{47, 54, calls.Result{Had: true, Val: "y"}},
		{55, 59, calls.Result{}},
	}
	is := done(t, m, New(0, l))
	for i, e := range is {
		if w := want[i]; e != (Entry{Worker: 0, Index: i, Call: l[i], Begin: w.begin, End: w.end, Result: w.Result}) {
			t.Errorf("the entry %d is %#v, not from %d to %d, %v", i, e, w.begin, w.end, w.Result)
		}
	}
	if len(is) != len(want) {
		t.Errorf("there are %d entries", len(is))
	}
}

// The chapter's example: a worker with a Get of an empty table, alone: behind 5 steps its entry has Begin 0, End 4.
func TestExample(t *testing.T) {
	m, _ := mem.New(1, 1)
	w := New(0, []calls.Call{{Kind: calls.Get, Key: "a"}})
	for now := range 5 {
		e, done := w.Step(m, now)
		want := Entry{}
		if now == 4 {
			want = Entry{Call: calls.Call{Kind: calls.Get, Key: "a"}, Begin: 0, End: 4}
		}
		if e != want || done != (now == 4) || w.Left() != (now < 4) {
			t.Fatalf("behind the step %d: %#v, %v", now, e, done)
		}
	}
}

// P17.1: Mine, written out: that of the call on its way; 0 ahead of the first step, between two calls, and behind the last one.
func TestMine(t *testing.T) {
	m, _ := mem.New(3, 1)
	w := New(0, []calls.Call{{Kind: calls.Put, Key: "a"}, {Kind: calls.Put, Key: "a"}, {Kind: calls.Get, Key: "a"}, {Kind: calls.Delete, Key: "a"}, {}, {Kind: calls.Put, Key: "b"}})
	is := []arena.Handle{w.Mine()}
	for now := 0; w.Left(); now++ {
		w.Step(m, now)
		is = append(is, w.Mine())
	}
	want := slices.Concat([]arena.Handle{0}, []arena.Handle{0, 0, 0, 0, 1, 0, 0}, []arena.Handle{0, 0, 0, 0, 0, 2, 1, 0, 0}, make([]arena.Handle, 6), []arena.Handle{0, 0, 0, 0, 0, 2, 0, 0}, []arena.Handle{0}, []arena.Handle{0, 0, 0, 0, 3, 0, 0})
	if !slices.Equal(is, want) {
		t.Fatalf("Mine = %v, not %v", is, want)
	}
}

// P17.1: without a call, of a worker that has none, and of one whose calls are done, a step does nothing, as often as it is taken, whatever is held, and whoever is in: the zero entry, false; Left and Ready are false, Mine is 0.
func TestWithout(t *testing.T) {
	keys := trial.KeysByTurns(2, 3)
	for _, l := range [][]calls.Call{nil, {}, {{Kind: calls.Get, Key: "a"}}, plainmap.Of(keys), {{Kind: calls.Put, Key: "new"}, {}}} {
		m := trial.FreeTable(t, 2, keys)
		w := New(1, l)
		done(t, m, w)
		for held := range 1 << 6 {
			trial.HoldSome(m, held)
			m.Cells.Store(firstCounter, uint64(held))
			before := trial.Look(m)
			for now := range 3 {
				e, done := w.Step(m, now)
				if e != (Entry{}) || done || w.Left() || w.Ready(m) || w.Mine() != 0 {
					t.Fatalf("without a call Step = %#v, %v, Left = %v, Ready = %v, Mine = %d", e, done, w.Left(), w.Ready(m), w.Mine())
				}
				before.Check(t, m, "a step without a call")
			}
			trial.FreeSome(m)
		}
	}
}
