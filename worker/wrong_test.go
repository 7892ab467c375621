package worker

import (
	"slices"
	"testing"

	"quietus/api"
	"quietus/calls"
	"quietus/plainmap"
	"quietus/trial"
)

// enough is more steps than a call may take of a small memory, but one that goes round in a chain that comes back.
const enough = 300

// never says whether a call of a worker below 0, which can have no lock, is never done.
func never(c calls.Call) bool {
	if c.Check() != api.OK || c.Kind == calls.Get {
		return false
	}
	return c.Kind != calls.Resize || slices.Contains(trial.Powers(), c.Size)
}

// R1, P17.1: of a worker that there isn't, below 0 or beyond the last one, each step ends, none panics, and each comes to what layer 16's call comes to.
func TestNoWorker(t *testing.T) {
	keys := trial.KeysByTurns(2, 3)
	for _, number := range append(trial.NotWorkers(), 3, 4, 5) {
		for _, c := range plainmap.All(keys) {
			x := tablePair(t, 3, number, keys, false, []calls.Call{c, {}, c})
			now := 0
			for ; x.ready() && now < enough; now++ {
				x.take(now)
			}
			x.take(now)
			x.same("behind its steps")
			if stays := number < 0 && never(c); x.w.Left() != stays {
				t.Fatalf("%s: it is done: %v", x.what("behind its steps"), !stays)
			}
		}
	}
}

// R1, P17.1: of a worker below 0 a call that needs a lock stays on its way for ever: it is left, and never ready again, and those behind it never begin.
func TestBelowWorkers(t *testing.T) {
	keys := trial.KeysByTurns(2, 3)
	for _, number := range []int{-1, -2, -1 << 40} {
		for _, c := range plainmap.Of(keys) {
			if !never(c) {
				continue
			}
			m := trial.FreeTable(t, 2, keys)
			w := New(number, []calls.Call{{Kind: calls.Get, Key: "a"}, c, {}})
			var is []Entry
			now := 0
			for ; w.Ready(m) && now < enough; now++ {
				if e, done := w.Step(m, now); done {
					is = append(is, e)
				}
			}
			before := trial.Look(m)
			for range 9 {
				if e, done := w.Step(m, now); e != (Entry{}) || done || !w.Left() || w.Ready(m) || w.Mine() != 0 {
					t.Fatalf("%#v of %d: Step = %#v, %v", c, number, e, done)
				}
				before.Check(t, m, "a step of a worker below 0")
			}
			if len(is) != 1 || is[0].Worker != number || is[0].Result != (calls.Result{}) {
				t.Fatalf("%#v of %d: the entries are %v", c, number, is)
			}
		}
	}
}

// R1, P17.1: many calls that may not be are done in one step each, by whichever worker, also by one that there isn't, and nothing of the memory is changed.
func TestRefused(t *testing.T) {
	var l []calls.Call
	all := plainmap.AllRefused()
	for _, c := range all {
		l = append(l, c.Call)
	}
	for _, number := range append(trial.NotWorkers(), 0, 1) {
		m := trial.FreeTable(t, 2, trial.KeysByTurns(2, 3))
		trial.HoldAll(m, somebody)
		before := trial.Look(m)
		is := done(t, m, New(number, l))
		for i, e := range is {
			if e != (Entry{Worker: number, Index: i, Call: l[i], Begin: i, End: i, Result: calls.Result{Err: all[i].Err}}) {
				t.Fatalf("of the worker %d the entry %d is %#v", number, i, e)
			}
		}
		if len(is) != len(l) {
			t.Fatalf("of the worker %d there are %d entries", number, len(is))
		}
		before.Check(t, m, "calls that may not be")
	}
}

// R1, P17.1, P17.2: of a number in cell 1 of which there is no table a worker's calls, and the one that frees, come to their ends.
func TestWrongNumber(t *testing.T) {
	keys := trial.KeysByTurns(2, 3)
	for _, word := range trial.WrongNumbers(2) {
		x := tablePair(t, 2, 1, keys, false, plainmap.All(keys))
		d := newFreeing(t, x.m, x.o, 2)
		x.m.Cells.Store(1, word)
		x.o.Cells.Store(1, word)
		x.finish(0)
		d.goOn()
		if x.m.Waiting() > 0 || !d.d.Idle() {
			t.Fatalf("of the number %d %d wait", word, x.m.Waiting())
		}
	}
}
