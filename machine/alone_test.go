package machine

import (
	"slices"
	"testing"

	"quietus/api"
	"quietus/calls"
	"quietus/plainmap"
	"quietus/trial"
)

// alone is a machine whose workers do their calls one after the other, and the abstract map.
type alone struct {
	*plainmap.Alone
	// Rows are each worker's calls that aren't done.
	plainmap.Rows
	t *testing.T
	x *Machine
}

// newAlone is one of a worker for each row.
func newAlone(t *testing.T, room int, r plainmap.Rows) *alone {
	t.Helper()
	a := &alone{Alone: plainmap.New(t, room, len(r)), Rows: r, t: t}
	a.x, _ = New(room, r.Calls())
	a.M = a.x.Mem()
	return a
}

// Do has a worker do its next call, with nothing beside it: the entry's result is what the abstract map answers. Those who have calls left are ready, as each call is done ahead of the next one.
func (a *alone) Do(number int) {
	a.t.Helper()
	pick := slices.Index(a.Some(), number)
	c := a.Cut(number)
	want, begin, done := a.Alone.Do(c.Call, c.Err), a.x.Steps(), len(a.x.History())
	for len(a.x.History()) == done {
		by(a.t, a.x, pick)
	}
	e := a.x.History()[done]
	if e.Worker != number || e.Call != c.Call || e.Begin != begin || e.End != a.x.Steps()-1 || e.Result != want {
		a.t.Fatalf("of %#v, begun at %d, the entry is %#v, not of %v", c.Call, begin, e, want)
	}
}

// Drain has the one that frees, the last one of those that are ready, go on till nothing waits.
func (a *alone) Drain() {
	a.t.Helper()
	for a.M.Waiting() > 0 || len(a.x.Flight()) > 0 {
		by(a.t, a.x, len(a.Some()))
	}
}

// End says whether it is over behind drains, so that all places are free, but those of keys.
func (a *alone) End() {
	a.t.Helper()
	a.Check()
	a.Drain()
	a.Check()
	if !a.x.Over() || a.M.Arena.Spare()+len(a.Vals) != a.M.Arena.Room() {
		a.t.Fatalf("Over = %v, %d are free, of %d keys", a.x.Over(), a.M.Arena.Spare(), len(a.Vals))
	}
}

// P18.1, W5: all short rows of calls of a worker alone, and of two by turns, call by call, with drains ahead of every other call, of arenas of 1 to 3 places: each answer is that of the abstract map; what keys and values there are is as the map has it, and all that waits is freed.
func TestShortRows(t *testing.T) {
	plainmap.ShortRows(func(room int, r plainmap.Rows) plainmap.Doer { return newAlone(t, room, r) })
}

// P18.1, W5: long rows of calls, of one worker, and of several by turns, call by call, that are picked, with drains between them, of small arenas and of larger ones, in tables of many numbers of buckets, calls that are refused among them: the same.
func TestLongRows(t *testing.T) {
	// Histories are looked at behind each step, of which there mustn't be as many as of greater tables.
	plainmap.LongRows(t, mostCalls, 64, func(room int, r plainmap.Rows) plainmap.Doer { return newAlone(t, room, r) })
}

// P18.1, W5: of one worker's calls, run by whatever picks, the answers are those of the abstract map, call by call: also while what waits is freed; where no place may have been free, a Put alone may be refused.
func TestOneWorkerRuns(t *testing.T) {
	refused := 0
	for seed := range uint32(80) {
		next := trial.Picker(seed)
		room := []int{1, 2, 3, 5, 60}[next(5)]
		l := plainmap.PickLists(next, 1, mostCalls)
		w := newTwin(t, room, l)
		w.run(pickPicks(next, next(600)), api.OK)
		vals := plainmap.Map{}
		for i, e := range w.x.History() {
			full := e.Result.Err == api.ErrFull
			want := calls.Result{Err: e.Call.Check()}
			if want.Err == api.OK {
				want = vals.Do(e.Call, full)
			}
			if e.Call != l[0][i] || e.Result != want || full && room > mostCalls {
				t.Fatalf("the entry %d is %v, not of %v", i, e, want)
			}
			if full {
				refused++
			}
		}
		for key, val := range vals {
			if is, had := trial.ValOf(w.m, key); !had || is != val {
				t.Fatalf("the key %q has %q, %v, not %q", key, is, had, val)
			}
		}
		if n := len(w.m.Reach()); n != len(vals) {
			t.Fatalf("there are %d keys, not %v", n, vals)
		}
	}
	if refused < 50 {
		t.Errorf("%d Puts alone are refused", refused)
	}
}
