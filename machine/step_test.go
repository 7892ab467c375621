package machine

import (
	"math"
	"math/bits"
	"slices"
	"strings"
	"testing"

	"quietus/api"
	"quietus/arena"
	"quietus/calls"
	"quietus/mem"
	"quietus/plainmap"
	"quietus/trial"
)

// wide are picks of all kinds: those next to 0, great ones, the least and the greatest one, and such whose low bits alone are small.
func wide() []int {
	high := 1 << (bits.UintSize / 2)
	return []int{
		0, 1, 2, 3, 7, 8, 9, 10, 255, 256, 65535, 65536, 1 << 20, high, high + 1, -high, 1 - high, math.MaxInt32, math.MaxInt - 2, math.MaxInt - 1, math.MaxInt,
		-1, -2, -3, -8, -9, -256, -65536, math.MinInt32, math.MinInt, math.MinInt + 1, math.MinInt + 2,
	}
}

// refused are lists of calls of which each is done by one step, as it may not be: of each worker so many.
func refused(lengths ...int) [][]calls.Call {
	l := make([][]calls.Call, len(lengths))
	for number, n := range lengths {
		l[number] = make([]calls.Call, n)
	}
	return l
}

// whose are the workers whose calls are done, in order.
func whose(x *Machine) []int {
	var l []int
	for _, e := range x.History() {
		l = append(l, e.Worker)
	}
	return l
}

// by has a machine take steps by these picks.
func by(t *testing.T, x *Machine, picks ...int) {
	t.Helper()
	for i, pick := range picks {
		if !x.Step(pick) {
			t.Fatalf("of %v by the pick %d none is ready", picks, i)
		}
	}
}

// P18.1: a pick from 0 on chooses, of those that are ready, the one that it is modulo how many they are, in order; also the greatest number that there is. By each step one of these calls is done.
func TestPicksFromNought(t *testing.T) {
	for workers := 1; workers <= mostWorkers; workers++ {
		lengths := slices.Repeat([]int{mostCalls}, workers)
		for _, pick := range wide() {
			if pick < 0 {
				continue
			}
			x, _ := New(1, refused(lengths...))
			for step := range mostCalls {
				by(t, x, pick)
				if is := whose(x); len(is) != step+1 || is[step] != pick%workers {
					t.Fatalf("of %d workers the pick %d has those take their steps: %v", workers, pick, is)
				}
			}
		}
	}
}

// P18.1: those that aren't ready aren't counted: of four workers, of which two have no call, and of those that are done.
func TestPicksOfReady(t *testing.T) {
	x, _ := New(1, refused(0, 2, 0, 3))
	by(t, x, 0, 1, 2, 3, 5)
	if is := whose(x); !slices.Equal(is, []int{1, 3, 1, 3, 3}) {
		t.Errorf("the steps are taken by %v", is)
	}
	if x.Step(0) || !x.Over() {
		t.Error("without calls it isn't over")
	}
}

// P18.1: a pick below 0, whichever, chooses of those that are ready the one that was chosen longest ago, by whatever pick; those that never were are first, in order.
func TestPicksBelowNought(t *testing.T) {
	for _, c := range []struct {
		lengths []int
		picks   []int
		want    []int
	}{
		{[]int{9, 9, 9}, []int{-1, -1, -1, -1, -1, -1, -1}, []int{0, 1, 2, 0, 1, 2, 0}},
		{[]int{9, 9, 9}, []int{math.MinInt, -2, math.MinInt + 1, -3, -65536}, []int{0, 1, 2, 0, 1}},
		{[]int{9, 9, 9, 9}, []int{2, -1, -1, -1, -1, -1}, []int{2, 0, 1, 3, 2, 0}},
		{[]int{9, 9, 9, 9}, []int{3, 3, 1, -1, 3, -1, -1, -1, -1}, []int{3, 3, 1, 0, 3, 2, 1, 0, 3}},
		{[]int{9, 9, 9}, []int{-1, -1, -1, 0, -1, -1, -1}, []int{0, 1, 2, 0, 1, 2, 0}},
		{[]int{9, 9, 9}, []int{-1, 0, 0, -1, -1, 1, -1, -1, -1}, []int{0, 0, 0, 1, 2, 1, 0, 2, 1}},
		{[]int{1, 3, 2}, []int{-1, -1, -1, -1, -1, -1}, []int{0, 1, 2, 1, 2, 1}},
		{[]int{0, 0, 1, 0, 2}, []int{-1, -1, -1}, []int{2, 4, 4}},
		{[]int{2, 2}, []int{1, 1, -1, -1}, []int{1, 1, 0, 0}},
	} {
		x, _ := New(1, refused(c.lengths...))
		by(t, x, c.picks...)
		if is := whose(x); !slices.Equal(is, c.want) {
			t.Errorf("of %v the picks %v have those take their steps: %v, not %v", c.lengths, c.picks, is, c.want)
		}
	}
}

// waits has a new node wait.
func waits(t *testing.T, m *mem.Mem) arena.Handle {
	h := trial.Alloc(t, m, arena.Node{Key: "waits"})
	m.Retire(h)
	return h
}

// P18.1: the one that frees is the last one of those that are ready, as soon as something waits, till that is freed.
func TestTheOneThatFrees(t *testing.T) {
	for workers := 1; workers <= mostWorkers; workers++ {
		for _, pick := range []int{workers, 2*workers + 1, workers + 7*(workers+1)} {
			x, _ := New(1, refused(slices.Repeat([]int{9}, workers)...))
			h := waits(t, x.Mem())
			// It takes what waits, waits for the workers, in three steps beside those for each of them, and frees.
			for step := range 1 + 3 + workers + 1 {
				if !x.Mem().Arena.Live(h) || x.Mem().Waiting() > 0 != (step == 0) {
					t.Fatalf("behind %d steps of %d workers %d wait", step, workers, x.Mem().Waiting())
				}
				by(t, x, pick)
			}
			by(t, x, pick)
			if is := whose(x); !slices.Equal(is, []int{pick % workers}) || x.Mem().Arena.Live(h) {
				t.Fatalf("of %d workers the pick %d has those take their steps: %v", workers, pick, is)
			}
		}
	}
}

// P18.1: by picks below 0 the one that frees has its turns, as all others have: behind the workers, if none of them was chosen.
func TestTurnsOfTheOneThatFrees(t *testing.T) {
	for workers := 1; workers <= mostWorkers; workers++ {
		x, _ := New(1, refused(slices.Repeat([]int{9}, workers)...))
		waits(t, x.Mem())
		var want []int
		for step := range 5 * (workers + 1) {
			by(t, x, -1)
			if turn := step % (workers + 1); turn < workers {
				want = append(want, turn)
			}
			if is := whose(x); !slices.Equal(is, want) || x.Mem().Waiting() > 0 != (step < workers) {
				t.Fatalf("of %d workers by turns those take their steps: %v, %d wait", workers, is, x.Mem().Waiting())
			}
		}
	}
}

// P18.1: written out: a worker puts a, twice, then another one gets it, while what waits is freed; whose step each one is is told by what it changes.
func TestWrittenOut(t *testing.T) {
	x, _ := New(2, plainmap.Lists("+a+a ga"))
	m := x.Mem()
	by(t, x, slices.Repeat([]int{0}, 7+9)...)
	if l := x.History(); len(l) != 2 || l[0].End != 6 || l[1].Begin != 7 || l[1].End != 15 || m.Waiting() != 1 || x.Steps() != 16 {
		t.Fatalf("behind the first worker's steps there are %v, %d wait", l, m.Waiting())
	}
	by(t, x, 1)
	if is := x.Flight(); !slices.Equal(is, []arena.Handle{1}) || m.Waiting() != 0 {
		t.Fatalf("what waited is taken: Flight = %v", is)
	}
	by(t, x, -1, 2)
	if is := trial.In(m); !slices.Equal(is, []int{1}) {
		t.Fatalf("the other worker took two steps: %v are in", is)
	}
	by(t, x, -1)
	if holder := m.Locks.Holder(periodLock); holder != 2 {
		t.Fatalf("the one that frees took its turn, the period's lock has %d", holder)
	}
	by(t, x, 3, -1)
	if period, _ := m.Cells.Load(0); period != 2 || x.Steps() != 22 {
		t.Fatalf("the one that frees raised the period, it is %d", period)
	}
	// It waits for the one that is in, behind its look at the first worker, so that one thread is ready; then both are.
	by(t, x, math.MaxInt, -5, math.MinInt, 77)
	if l := x.History(); len(l) != 3 || l[2].Worker != 1 || l[2].Begin != 17 || l[2].End != 25 || l[2].Result.Val != "+a" {
		t.Fatalf("the other worker is done: %v", l)
	}
	by(t, x, 0, 5, -1)
	if x.Steps() != 29 || !x.Over() || m.Arena.Spare() != 1 || len(x.Flight()) != 0 || x.Step(0) {
		t.Fatalf("behind %d steps %v are one thread's", x.Steps(), x.Flight())
	}
}

// P18.1: where none is ready a step is false, whatever the pick, and nothing is changed; true else, and Steps is one more.
func TestNoneIsReady(t *testing.T) {
	for _, words := range []string{"ga", "+a-a+b ga2x !x", "2x4x1x +a+b-a+c gagb"} {
		w := newTwin(t, 3, plainmap.Lists(words))
		w.goOn()
		w.nothing("it is over")
		w = newTwin(t, 3, append(plainmap.Lists(words), nil))
		w.goOn()
		w.nothing("it is over")
	}
	for workers := 1; workers <= mostWorkers; workers++ {
		w := newTwin(t, 3, make([][]calls.Call, workers))
		w.nothing("there is no call")
	}
}

// nothing says whether by whatever pick no step is taken, and nothing is changed.
func (w *twin) nothing(what string) {
	w.t.Helper()
	before, steps := trial.Look(w.m), w.x.Steps()
	for _, pick := range wide() {
		if w.take(pick) >= 0 || w.x.Steps() != steps {
			w.t.Fatalf("%s, and by the pick %d a thread takes its step", what, pick)
		}
	}
	before.Check(w.t, w.m, what)
}

// P18.1, R1: while somebody else holds what all threads wait for, none is ready, though it isn't over: a step is false, and nothing is changed, Run ends with ErrLong, without a step; as soon as that is free, they go on.
func TestHeldBySomebody(t *testing.T) {
	for held := range 1 << 6 {
		for ahead := range 30 {
			w := newTwin(t, 2, plainmap.Lists("+a-a+b +a2x -b"))
			for range ahead {
				w.take(-1)
			}
			w.each(func(m *mem.Mem) { trial.HoldSome(m, held) })
			w.tells("locks are held")
			w.goOn()
			w.nothing("locks are held")
			want := api.OK
			if !w.over() {
				want = api.ErrLong
			}
			w.run([]int{0, 1, -1}, want)
			w.each(trial.FreeSome)
			w.run([]int{0, 1, -1}, api.OK)
		}
	}
}

// P18.1: each step, by whatever pick, of 1 to 8 workers and the one that frees, comes to what that thread's step comes to, played beside it in a memory of the same room: the memories, Over, Steps, History and Flight are the same ahead of each step, and behind it.
func TestPlayedBeside(t *testing.T) {
	steps := 0
	for workers := 1; workers <= mostWorkers; workers++ {
		for seed := range uint32(25) {
			next := trial.Picker(seed*mostWorkers + uint32(workers))
			w := newTwin(t, 1+next(12), plainmap.PickLists(next, workers, 12))
			for w.step(pickAny(next)) >= 0 {
				steps++
			}
			w.nothing("it is over")
		}
	}
	if steps < 50000 {
		t.Errorf("there are %d steps alone", steps)
	}
}

// P18.1: the same of others' doings in its memory: of nodes that are made to wait, of workers that are said to be in, of locks that are taken, and of another period.
func TestDisturbed(t *testing.T) {
	waited := 0
	for workers := 1; workers <= mostWorkers; workers++ {
		for seed := range uint32(25) {
			next := trial.Picker(seed*mostWorkers + uint32(workers) + 5000)
			w := newTwin(t, 2+next(12), plainmap.PickLists(next, workers, 8))
			for range 400 {
				if next(8) == 0 {
					w.disturb(next)
				}
				if w.step(pickAny(next)) < 0 {
					waited++
				}
			}
		}
	}
	if waited < 1000 {
		t.Errorf("%d times alone none was ready", waited)
	}
}

// disturb does something to both memories, and what waits for nothing but that may go on.
func (w *twin) disturb(next func(n int) int) {
	w.t.Helper()
	what, lock, number := next(6), next(6), next(len(w.workers))
	w.each(func(m *mem.Mem) {
		switch what {
		case 0:
			if m.Arena.Spare() > 0 {
				waits(w.t, m)
			}
		case 1:
			m.Locks.Try(lock, somebody)
		case 2, 3:
			trial.FreeSome(m)
			m.Locks.Free(lock, somebody)
		case 4:
			m.Cells.Store(firstCounter+number, uint64(lock))
		case 5:
			m.Cells.Add(0, uint64(lock))
		}
	})
	w.tells("a disturbance")
}

// The chapter's example: of two workers, of which one puts a, and the other gets a, run by no picks both are done.
func TestExample(t *testing.T) {
	x, e := New(1, plainmap.Lists("+a ga"))
	if e != api.OK || x.Run(nil) != api.OK || len(x.History()) != 2 || !x.Over() {
		t.Errorf("there are %v", x.History())
	}
	for _, e := range x.History() {
		if e.Call.Key != "a" || !strings.Contains("put get", e.Call.Kind.String()) || e.Result.Err != api.OK {
			t.Errorf("the entry is %v", e)
		}
	}
}
