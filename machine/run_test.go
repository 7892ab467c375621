package machine

import (
	"slices"
	"testing"

	"quietus/api"
	"quietus/calls"
	"quietus/mem"
	"quietus/plainmap"
	"quietus/trial"
)

// pickPicks are so many picks of any kind, with room behind their end, in which there are picks, too.
func pickPicks(next func(n int) int, n int) []int {
	var l []int
	for len(l) < n+4 {
		l = append(l, pickAny(next))
	}
	return l[:n]
}

// P18.1: Run has as many steps as there are till it is over, by the picks, in order, and then by picks below 0: as many, and the same ones, as workers and one that frees take beside it; OK then. It may be over ahead of the last pick: then there are no more steps.
func TestRun(t *testing.T) {
	early, late := 0, 0
	for workers := 1; workers <= mostWorkers; workers++ {
		for seed := range uint32(12) {
			for _, n := range []int{0, 1, 2, 10, 100, 1000, 5000} {
				next := trial.Picker(seed*mostWorkers + uint32(workers))
				w := newTwin(t, 1+next(12), plainmap.PickLists(next, workers, 9))
				w.run(pickPicks(next, n), api.OK)
				if w.steps < n {
					early++
				} else {
					late++
				}
				w.nothing("it is over")
			}
		}
	}
	if early < 100 || late < 100 {
		t.Errorf("%d were over ahead of the last pick, %d not", early, late)
	}
}

// P18.1: written out: which steps are taken by which picks, those beyond the picks by turns.
func TestRunWrittenOut(t *testing.T) {
	for _, c := range []struct {
		lengths []int
		picks   []int
		want    []int
	}{
		{[]int{2, 2, 2}, nil, []int{0, 1, 2, 0, 1, 2}},
		{[]int{2, 2, 2}, []int{2, 2}, []int{2, 2, 0, 1, 0, 1}},
		{[]int{2, 2, 2}, []int{1, -1, 1, 1}, []int{1, 0, 1, 2, 0, 2}},
		{[]int{2, 2, 2}, []int{5, 4, 3, 2, 1, 0}, []int{2, 1, 0, 2, 1, 0}},
		{[]int{2, 2, 2}, []int{0, 0, 0, 0, 0, 0, 0, 0, 0}, []int{0, 0, 1, 1, 2, 2}},
		{[]int{1}, []int{7, 7, 7}, []int{0}},
		{[]int{0, 0}, []int{1, 2, 3}, nil},
	} {
		x, _ := New(1, refused(c.lengths...))
		if e := x.Run(c.picks); e != api.OK || !x.Over() || x.Steps() != len(c.want) || !slices.Equal(whose(x), c.want) {
			t.Errorf("of %v, run by %v, those take their steps: %v, not %v", c.lengths, c.picks, whose(x), c.want)
		}
	}
}

// P18.1, R4: no picks, nil or empty, have all steps be by turns, as steps by picks below 0 are.
func TestNoPicks(t *testing.T) {
	for seed := range uint32(40) {
		for _, picks := range [][]int{nil, {}, pickPicks(trial.Picker(seed), 0)} {
			next := trial.Picker(seed)
			w := newTwin(t, 1+next(9), plainmap.PickLists(next, 1+next(mostWorkers), 9))
			next = trial.Picker(seed)
			x, _ := New(1+next(9), plainmap.PickLists(next, 1+next(mostWorkers), 9))
			for x.Step(-1) {
			}
			w.run(picks, api.OK)
			if !slices.Equal(w.x.History(), x.History()) || w.x.Steps() != x.Steps() {
				t.Fatalf("run by %v there are %d steps, not %d", picks, w.x.Steps(), x.Steps())
			}
		}
	}
}

// P18.1: of a machine that is over already no step is taken, by whatever picks: OK, and nothing is changed, as often as it is run.
func TestRunOver(t *testing.T) {
	for seed := range uint32(20) {
		next := trial.Picker(seed)
		w := newTwin(t, 1+next(9), plainmap.PickLists(next, 1+next(mostWorkers), 5))
		w.run(nil, api.OK)
		before, steps := trial.Look(w.m), w.x.Steps()
		for range 3 {
			w.run(pickPicks(next, next(9)), api.OK)
			before.Check(t, w.m, "run, though it is over")
			if w.x.Steps() != steps {
				t.Fatalf("there are %d steps, not %d", w.x.Steps(), steps)
			}
		}
	}
}

// P18.1: Run goes on where steps brought it, whichever they were.
func TestRunBehindSteps(t *testing.T) {
	for seed := range uint32(60) {
		next := trial.Picker(seed)
		w := newTwin(t, 1+next(9), plainmap.PickLists(next, 1+next(mostWorkers), 9))
		for range next(300) {
			w.take(pickAny(next))
		}
		w.run(pickPicks(next, next(50)), api.OK)
	}
}

// P18.1: a machine that was over, in whose memory something came to wait, is run till that is freed.
func TestRunAgain(t *testing.T) {
	w := newTwin(t, 3, plainmap.Lists("+a ga"))
	for range 3 {
		w.run(nil, api.OK)
		w.each(func(m *mem.Mem) { waits(t, m) })
		w.tells("something waits")
		if w.x.Over() {
			t.Fatal("something waits, it is over")
		}
		steps := w.steps
		w.run([]int{4, -1}, api.OK)
		if w.m.Waiting() != 0 || w.steps-steps != 1+3+2+1 {
			t.Fatalf("%d wait, behind %d steps", w.m.Waiting(), w.steps-steps)
		}
	}
}

// P18.1, R3: picks that are handed in, with the room behind their end, aren't changed, and not kept: whatever is changed of them behind Run, further steps are by other picks.
func TestPicksStay(t *testing.T) {
	next := trial.Picker(9)
	for _, n := range []int{0, 1, 5, 100, 3000} {
		w := newTwin(t, 5, plainmap.PickLists(next, 3, 9))
		picks := pickPicks(next, n)
		same := slices.Clone(picks[:cap(picks)])
		w.run(picks, api.OK)
		if !slices.Equal(picks[:cap(picks)], same) {
			t.Fatalf("the picks are %v, not %v", picks[:cap(picks)], same)
		}
		spoil(picks, 0)
		w.each(func(m *mem.Mem) { waits(t, m) })
		w.run(nil, api.OK)
	}
}

// steps is how many steps a worker alone takes for calls of an empty map.
func steps(t *testing.T, l []calls.Call) int {
	t.Helper()
	x, _ := New(1, [][]calls.Call{l})
	for x.Step(0) {
	}
	if !x.Over() || len(x.History()) != len(l) {
		t.Fatalf("of %d calls %d are done", len(l), len(x.History()))
	}
	return x.Steps()
}

// thereAndBack are resizes to a size, and back to one bucket.
func thereAndBack(size int) []calls.Call {
	return []calls.Call{{Kind: calls.Resize, Size: size}, {Kind: calls.Resize, Size: 1}}
}

// callsOf are calls of an empty map by which a worker alone takes just so many steps: resizes there and back, as great as may be, gets, and calls that are refused.
func callsOf(t *testing.T, n int) []calls.Call {
	t.Helper()
	var l []calls.Call
	for size := 65536; size > 1; size /= 2 {
		for more := thereAndBack(size); steps(t, more) <= n; n -= steps(t, more) {
			l = append(l, more...)
		}
	}
	for ; n >= 5; n -= 5 {
		l = append(l, calls.Call{Key: "a"})
	}
	l = append(l, make([]calls.Call, n)...)
	if len(l) > mostCalls-3 {
		t.Fatalf("there are %d calls", len(l))
	}
	return l
}

// P18.1: of just as many steps as may be, 200000, it is run to its end, by picks, and without; of one step more it isn't over behind them: ErrLong, and there were so many steps. Run again it is over.
func TestMostSteps(t *testing.T) {
	l := callsOf(t, mostSteps)
	for _, picks := range [][]int{nil, make([]int, 10), make([]int, mostSteps), make([]int, mostSteps+10)} {
		x, _ := New(1, [][]calls.Call{l})
		if e := x.Run(picks); e != api.OK || !x.Over() || x.Steps() != mostSteps || len(x.History()) != len(l) {
			t.Fatalf("of as many steps as may be Run = %v, behind %d", e, x.Steps())
		}
		x, _ = New(1, [][]calls.Call{append(slices.Clone(l), calls.Call{})})
		if e := x.Run(picks); e != api.ErrLong || x.Over() || x.Steps() != mostSteps || len(x.History()) != len(l) {
			t.Fatalf("of one step more Run = %v, behind %d", e, x.Steps())
		}
		if e := x.Run(picks); e != api.OK || !x.Over() || x.Steps() != mostSteps+1 || len(x.History()) != len(l)+1 {
			t.Fatalf("run again, Run = %v, behind %d", e, x.Steps())
		}
	}
}

// P18.1: steps that were ahead of Run are none of its own: behind them it may take as many as may be.
func TestStepsAheadOfRun(t *testing.T) {
	const more = 3
	l := append(callsOf(t, mostSteps), make([]calls.Call, more)...)
	for ahead := range 2 * more {
		x, _ := New(1, [][]calls.Call{l})
		by(t, x, slices.Repeat([]int{0}, ahead)...)
		want := api.ErrLong
		if ahead >= more {
			want = api.OK
		}
		if e := x.Run(nil); e != want || x.Steps() != mostSteps+min(ahead, more) || x.Over() != (want == api.OK) {
			t.Fatalf("behind %d steps Run = %v, behind %d", ahead, e, x.Steps())
		}
		if e := x.Run(nil); e != api.OK || x.Steps() != mostSteps+more {
			t.Fatalf("run again, Run = %v, behind %d", e, x.Steps())
		}
	}
}

// P18.1: of calls that take many more steps than may be each Run but the last one ends with ErrLong, behind as many as may be; none of the calls is lost, each is done once.
func TestLongRuns(t *testing.T) {
	l := [][]calls.Call{slices.Repeat(thereAndBack(65536), 3), plainmap.List("+agagb+b+c-a")}
	x, _ := New(4, l)
	runs := 1
	for ; x.Run([]int{2, 0, 1}) == api.ErrLong; runs++ {
		if x.Steps() != runs*mostSteps || x.Over() {
			t.Fatalf("behind %d runs there are %d steps", runs, x.Steps())
		}
	}
	if !x.Over() || runs != 3 || len(x.History()) != len(l[0])+len(l[1]) {
		t.Errorf("behind %d runs it is over: %v, there are %v", runs, x.Over(), x.History())
	}
	for _, e := range x.History() {
		if e.Result.Err != api.OK {
			t.Errorf("there is %v", e)
		}
	}
	trial.AtRest(t, x.Mem())
}
