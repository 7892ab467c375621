package worker

import (
	"slices"
	"testing"

	"quietus/arena"
	"quietus/mem"
	"quietus/qsbr"
	"quietus/retire"
	"quietus/trial"
)

// freeing is one that frees, and, of a twin memory that is as its own, the drains themselves (layer 7), which tell what each step has to come to.
type freeing struct {
	t      *testing.T
	d      *Drainer
	number int
	m, o   *mem.Mem
	drain  *retire.Drain
	// began says whether the drain has taken, and drains is how many were done.
	began  bool
	drains int
}

// newFreeing is one that took no step, by whose making nothing is changed.
func newFreeing(t *testing.T, m, o *mem.Mem, number int) *freeing {
	t.Helper()
	x := &freeing{t: t, d: NewDrainer(number), number: number, m: m, o: o, drain: retire.New(number)}
	x.tells("NewDrainer")
	x.same("NewDrainer")
	return x
}

// ready says whether it has to be ready.
func (x *freeing) ready() bool { return x.drain.Ready(x.o) }

// left is what has to be left.
func (x *freeing) left() []arena.Handle { return x.drain.Left() }

// tells says whether it tells what it has to, however often it is asked.
func (x *freeing) tells(what string) {
	x.t.Helper()
	for range 2 {
		if is := x.d.Ready(x.m); is != x.ready() {
			x.t.Fatalf("%s of the one that frees: Ready = %v", what, is)
		}
		if is := x.d.Idle(); is != !x.began {
			x.t.Fatalf("%s of the one that frees: Idle = %v", what, is)
		}
		if is := x.d.Left(); !slices.Equal(is, x.left()) {
			x.t.Fatalf("%s of the one that frees: Left = %v, not %v", what, is, x.left())
		}
	}
}

// same says whether both memories are.
func (x *freeing) same(what string) {
	x.t.Helper()
	trial.Look(x.o).Check(x.t, x.m, what+" of the one that frees")
}

// take has it take its step, ready or not.
func (x *freeing) take() {
	x.t.Helper()
	x.began = x.began || x.o.Waiting() > 0
	x.d.Step(x.m)
	if x.drain.Step(x.o) {
		x.drain, x.began = retire.New(x.number), false
		x.drains++
	}
	x.tells("a step")
}

// step does the same, and looks at the memories.
func (x *freeing) step() {
	x.t.Helper()
	x.take()
	x.same("a step")
}

// goOn has it take steps as long as it has to be ready, and says how many there were.
func (x *freeing) goOn() int {
	x.t.Helper()
	n := 0
	for ; x.ready(); n++ {
		x.step()
	}
	return n
}

// each does something to both memories.
func (x *freeing) each(do func(m *mem.Mem)) {
	do(x.m)
	do(x.o)
}

// retires has so many new nodes wait, in both memories, the last one first.
func (x *freeing) retires(n int) {
	x.t.Helper()
	x.each(func(m *mem.Mem) { waits(x.t, m, n) })
}

// waits has so many new nodes wait, the last one first, so that their order isn't that of their places.
func waits(t *testing.T, m *mem.Mem, n int) []arena.Handle {
	t.Helper()
	var l []arena.Handle
	for range n {
		l = append(l, trial.Alloc(t, m, arena.Node{Key: "waits"}))
	}
	slices.Reverse(l)
	for _, h := range l {
		m.Retire(h)
	}
	return l
}

// tableFreeing is one that frees, of two memories of a table, in which nothing waits.
func tableFreeing(t *testing.T, workers, number int) *freeing {
	t.Helper()
	keys := trial.KeysByTurns(2, 3)
	m, o := trial.FreeTable(t, workers, keys), trial.FreeTable(t, workers, keys)
	m.Take()
	o.Take()
	return newFreeing(t, m, o, number)
}

// around are a drain's steps beside those for workers and handles: it takes, takes the lock, raises the period, frees the lock.
const around = 4

// P17.2: one that frees, of any number, does what drains do, again and again: as many steps as these take, each of which comes to the same; Ready, Idle and Left tell what they have to, ahead of each step, and behind it.
func TestDrainsAgain(t *testing.T) {
	for workers := 1; workers <= mostWorkers; workers++ {
		for _, number := range []int{workers, workers + 1, somebody, 1 << 40} {
			x := tableFreeing(t, workers, number)
			for n := range 7 {
				x.retires(n)
				if steps := x.goOn(); steps != (around+workers+n)*min(n, 1) {
					t.Fatalf("%d wait, of %d workers it takes %d steps", n, workers, steps)
				}
				// Nothing waits, so that these come to nothing.
				x.step()
				x.step()
			}
			if x.drains != 6 {
				t.Fatalf("%d drains are done", x.drains)
			}
		}
	}
}

// P17.2: it isn't ready where nothing waits, and is idle; a step then does nothing. It is ready as soon as something waits, and no more, when somebody else took that.
func TestNothingWaits(t *testing.T) {
	x := tableFreeing(t, 2, 2)
	for round := range 3 {
		if x.d.Ready(x.m) || !x.d.Idle() || len(x.d.Left()) != 0 {
			t.Fatalf("in the round %d nothing waits, Ready = %v, Idle = %v", round, x.d.Ready(x.m), x.d.Idle())
		}
		x.step()
		x.retires(1)
		if !x.d.Ready(x.m) || !x.d.Idle() {
			t.Fatalf("in the round %d one waits, Ready = %v, Idle = %v", round, x.d.Ready(x.m), x.d.Idle())
		}
		x.each(func(m *mem.Mem) { m.Arena.Free(m.Take()[0]) })
		x.tells("taken by somebody else")
		x.step()
		x.retires(2)
		x.goOn()
	}
}

// P17.2: a drain, written out: of two handles, and two workers, it is 8 steps; it is idle ahead of the first, and behind the last, not between, and behind the first what it took is left, one handle less with each that is freed, in order; with nothing that waits it goes no further.
func TestWrittenOut(t *testing.T) {
	m, _ := mem.New(5, 2)
	d := NewDrainer(2)
	for round := range 3 {
		l := waits(t, m, 2)
		for step, left := range []int{0, 2, 2, 2, 2, 2, 2, 1, 0} {
			if step > 0 {
				d.Step(m)
			}
			if is := d.Left(); !slices.Equal(is, l[2-left:]) && left > 0 || len(is) != left {
				t.Fatalf("in the round %d, behind %d steps, Left = %v, of %v", round, step, is, l)
			}
			if d.Idle() != (step == 0 || step == 8) || d.Ready(m) != (step < 8) || m.Arena.Live(l[0]) != (step < 7) || m.Arena.Live(l[1]) != (step < 8) {
				t.Fatalf("in the round %d, behind %d steps, Idle = %v, Ready = %v", round, step, d.Idle(), d.Ready(m))
			}
		}
		before := trial.Look(m)
		for range 3 {
			d.Step(m)
			before.Check(t, m, "nothing waits")
		}
	}
	if m.Arena.Fault() || m.Arena.Spare() != 5 {
		t.Fatalf("%d are free, the flag is up: %v", m.Arena.Spare(), m.Arena.Fault())
	}
}

// P17.2: while a worker is in that was in when it took, it isn't ready, and its steps do nothing; what it took is left; when that one goes out, or comes in anew, it goes on.
func TestReaderIn(t *testing.T) {
	for workers := 1; workers <= mostWorkers; workers++ {
		for worker := range workers {
			for _, anew := range []bool{false, true} {
				x := tableFreeing(t, workers, workers)
				for range 2 {
					x.each(func(m *mem.Mem) { trial.Finish(t, m, qsbr.Enter(worker), 2, "Enter") })
					x.retires(3)
					if n := x.goOn(); n != 3+worker {
						t.Fatalf("the worker %d is in, it takes %d steps", worker, n)
					}
					before := trial.Look(x.m)
					x.step()
					x.step()
					before.Check(t, x.m, "a worker is in")
					if x.d.Ready(x.m) || x.d.Idle() || len(x.d.Left()) != 3 {
						t.Fatalf("the worker %d is in, Ready = %v, Idle = %v, Left = %v", worker, x.d.Ready(x.m), x.d.Idle(), x.d.Left())
					}
					x.each(func(m *mem.Mem) {
						trial.Finish(t, m, qsbr.Leave(worker), 1, "Leave")
						if anew {
							trial.Finish(t, m, qsbr.Enter(worker), 2, "Enter")
						}
					})
					if n := x.goOn(); n != workers-worker+1+3 {
						t.Fatalf("the worker %d is out, it takes %d steps more", worker, n)
					}
					x.each(func(m *mem.Mem) { trial.Finish(t, m, qsbr.Leave(worker), 1, "Leave") })
				}
			}
		}
	}
}

// P17.2: while somebody has the period's lock it takes, and isn't ready behind that; other locks don't matter.
func TestPeriodLockHeld(t *testing.T) {
	for held := range 1 << 6 {
		x := tableFreeing(t, 2, 2)
		x.retires(2)
		x.each(func(m *mem.Mem) { trial.HoldSome(m, held) })
		want := around + 2 + 2
		if held&(1<<periodLock) != 0 {
			want = 1
		}
		if n := x.goOn(); n != want {
			t.Fatalf("%b being held, it takes %d steps", held, n)
		}
		x.step()
		x.each(trial.FreeSome)
		if n := x.goOn(); n != around+2+2-want {
			t.Fatalf("%b having been held, it takes %d steps more", held, n)
		}
	}
}

// P17.2: what comes to wait while it drains isn't freed by that drain, but by the next one, with which it begins as the elder one is done; each handle is freed once, nothing else is, and the flag stays down.
func TestComesToWait(t *testing.T) {
	for ahead := 1; ahead <= around+2+2; ahead++ {
		m, _ := mem.New(9, 2)
		kept := trial.Alloc(t, m, arena.Node{Key: "kept"})
		d := NewDrainer(2)
		l := waits(t, m, 2)
		for range ahead {
			d.Step(m)
		}
		late := waits(t, m, 3)
		for step := ahead; step < around+2+2; step++ {
			if is := d.Left(); d.Idle() || !slices.Equal(is, l[max(0, step-around-2):]) || m.Waiting() != 3 {
				t.Fatalf("behind %d steps Left = %v, of %v; %d wait", step, is, l, m.Waiting())
			}
			d.Step(m)
		}
		if !d.Idle() || !d.Ready(m) || len(d.Left()) != 0 || m.Waiting() != 3 || m.Arena.Live(l[0]) || m.Arena.Live(l[1]) {
			t.Fatalf("behind the drain Idle = %v, Left = %v, %d wait", d.Idle(), d.Left(), m.Waiting())
		}
		for i := range around + 2 + 3 {
			if i == 1 && !slices.Equal(d.Left(), late) {
				t.Fatalf("of the next drain Left = %v, not %v", d.Left(), late)
			}
			d.Step(m)
		}
		if !d.Idle() || d.Ready(m) || m.Waiting() != 0 || m.Arena.Fault() || m.Arena.Spare() != 8 || !m.Arena.Live(kept) {
			t.Fatalf("behind both drains Idle = %v, %d wait, %d are free", d.Idle(), m.Waiting(), m.Arena.Spare())
		}
	}
}

// P17.2: again and again, while ahead of each step something comes to wait: each drain frees what came since the one ahead of it took.
func TestEverMore(t *testing.T) {
	x := tableFreeing(t, 2, 2)
	next := trial.Picker(5)
	for range 400 {
		for range next(3) {
			if x.m.Arena.Spare() > 0 {
				x.retires(1)
			}
		}
		x.step()
	}
	x.goOn()
	if x.drains < 20 || x.m.Arena.Fault() || x.m.Waiting() > 0 {
		t.Fatalf("%d drains are done, %d wait, the flag is up: %v", x.drains, x.m.Waiting(), x.m.Arena.Fault())
	}
}

// P17.2, R3: what Left hands out is new memory: a change of it, or of the room behind its end, changes nothing of what it does, nor of what was handed out ahead of that, and it stays as it is while it goes on.
func TestLeftIsNew(t *testing.T) {
	x := tableFreeing(t, 2, 2)
	for n := range 4 {
		x.retires(n)
		for more := true; more; {
			kept := x.d.Left()
			same := slices.Clone(kept)
			other := x.d.Left()
			for i := range other {
				other[i] = 1
			}
			clear(append(other, 1, 2, 3))
			x.tells("a change of what Left handed out")
			more = x.ready()
			x.step()
			if !slices.Equal(kept, same) {
				t.Fatalf("what Left handed out is %v, not %v", kept, same)
			}
		}
	}
	if x.drains != 3 {
		t.Fatalf("%d drains are done", x.drains)
	}
}

// P17.2, R5: two that free know nothing of each other, of two memories, nor of one: there each frees what it took.
func TestTwoThatFree(t *testing.T) {
	one, two := tableFreeing(t, 2, 2), tableFreeing(t, 3, 3)
	for n := range 5 {
		one.retires(n)
		two.retires(4 - n)
		for one.ready() || two.ready() {
			one.step()
			two.step()
			two.step()
		}
	}
	other := newFreeing(t, one.m, one.o, 3)
	for n := range 60 {
		if n%5 == 0 && one.m.Arena.Spare() > 1 {
			one.retires(2)
		}
		one.step()
		other.step()
	}
	for one.ready() || other.ready() {
		one.step()
		other.step()
	}
	if one.drains < 5 || other.drains < 2 || one.m.Waiting() > 0 || one.m.Arena.Fault() {
		t.Fatalf("%d, %d and %d drains are done, %d wait", one.drains, two.drains, other.drains, one.m.Waiting())
	}
}

// P17.2, R1: of a number below 0, which can have no lock, it takes, but isn't ready behind that; all calls end.
func TestFreesBelowWorkers(t *testing.T) {
	for _, number := range trial.NotWorkers() {
		if number >= 0 {
			continue
		}
		x := tableFreeing(t, 2, number)
		x.retires(3)
		if n := x.goOn(); n != 1 {
			t.Fatalf("of the number %d it takes %d steps", number, n)
		}
		for range 20 {
			x.step()
		}
		if x.d.Idle() || x.d.Ready(x.m) || len(x.d.Left()) != 3 {
			t.Fatalf("of the number %d Idle = %v, Left = %v", number, x.d.Idle(), x.d.Left())
		}
	}
}

// P17.2, R1: handles that wait and are stale, 0, of no place, or wait twice, are freed as drains do: it comes to its end, and what is live is freed once.
func TestFreesWrongHandles(t *testing.T) {
	x := tableFreeing(t, 2, 2)
	x.each(func(m *mem.Mem) {
		l := waits(t, m, 2)
		for _, h := range []arena.Handle{0, l[0], 1 << 40, 65536, l[1], 1<<64 - 1} {
			m.Retire(h)
		}
	})
	if n := x.goOn(); n != around+2+8 || !x.d.Idle() || !x.m.Arena.Fault() {
		t.Fatalf("it takes %d steps, Idle = %v, the flag is up: %v", n, x.d.Idle(), x.m.Arena.Fault())
	}
	x.retires(1)
	x.goOn()
}
