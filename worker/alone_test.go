package worker

import (
	"testing"

	"quietus/plainmap"
)

// alone is a memory whose workers do their calls one after the other, one that frees, and the abstract map.
type alone struct {
	*plainmap.Alone
	// Rows are each worker's calls that aren't done.
	plainmap.Rows
	t       *testing.T
	workers []*Worker
	d       *Drainer
	// now is how many steps of workers there were.
	now int
}

// newAlone is one of a worker for each row.
func newAlone(t *testing.T, room int, r plainmap.Rows) *alone {
	t.Helper()
	x := &alone{Alone: plainmap.New(t, room, len(r)), Rows: r, t: t, d: NewDrainer(len(r))}
	for number, own := range r.Calls() {
		x.workers = append(x.workers, New(number, own))
	}
	return x
}

// Do has a worker do its next call, with nothing beside it: the entry's result is what the abstract map answers.
func (x *alone) Do(worker int) {
	x.t.Helper()
	w, c := x.workers[worker], x.Cut(worker)
	want := x.Alone.Do(c.Call, c.Err)
	begin := x.now
	for done := false; !done; x.now++ {
		if !w.Ready(x.M) || !w.Left() {
			x.t.Fatalf("%#v of %d, alone, isn't ready", c.Call, worker)
		}
		var e Entry
		if e, done = w.Step(x.M, x.now); done && (e.Call != c.Call || e.Begin != begin || e.Result != want) {
			x.t.Fatalf("of %#v, begun at %d, the entry is %#v, not of %v", c.Call, begin, e, want)
		}
	}
	if left := len(x.Rows[worker]) > 0; w.Left() != left {
		x.t.Fatalf("behind %#v Left = %v", c.Call, !left)
	}
}

// Drain has the one that frees go on till it isn't ready: nothing waits then, and it is idle.
func (x *alone) Drain() {
	x.t.Helper()
	for x.d.Ready(x.M) {
		x.d.Step(x.M)
	}
	if x.M.Waiting() > 0 || !x.d.Idle() {
		x.t.Fatalf("behind drains %d wait, Left = %v", x.M.Waiting(), x.d.Left())
	}
}

// End looks at what there is, and at what is left of it when all that waits is freed.
func (x *alone) End() {
	x.t.Helper()
	x.Check()
	x.Drain()
	x.Check()
}

// P17.1, W5: all short rows of calls of a worker alone, and of two by turns, call by call, with drains ahead of every other call, of arenas of 1 to 3 places: each answer is that of the abstract map; what keys and values there are is as the map has it, and all that waits is freed.
func TestShortRows(t *testing.T) {
	plainmap.ShortRows(func(room int, r plainmap.Rows) plainmap.Doer { return newAlone(t, room, r) })
}

// P17.1, P17.2, W5: long rows of calls, of one worker, and of several by turns, call by call, that are picked, with drains between them, of small arenas and of larger ones, in tables of many numbers of buckets, calls that are refused among them: the same.
func TestLongRows(t *testing.T) {
	plainmap.LongRows(t, 100, 65536, func(room int, r plainmap.Rows) plainmap.Doer { return newAlone(t, room, r) })
}
