package model

import (
	"slices"
	"testing"

	"quietus/calls"
	"quietus/plainmap"
	"quietus/trial"
)

// alone is a memory whose workers do their calls one after the other, and the map behind them.
type alone struct {
	*plainmap.Alone
	// Rows are each worker's calls that aren't done.
	plainmap.Rows
	t  *testing.T
	is Map
}

// newAlone is one of a worker for each row.
func newAlone(t *testing.T, room int, r plainmap.Rows) *alone {
	t.Helper()
	return &alone{Alone: plainmap.New(t, room, len(r)), Rows: r, t: t}
}

// Do has a worker do its next call, with nothing beside it: it answers what the map answers, which is full just if no place is free.
func (a *alone) Do(worker int) {
	a.t.Helper()
	c := a.Cut(worker)
	var want calls.Result
	a.is, want = a.is.Do(c.Call, a.M.Arena.Spare() == 0)
	a.Alone.Do(c.Call, c.Err)
	if r := plainmap.DoneBy(a.t, a.M, worker, c.Call); r != want {
		a.t.Fatalf("%#v answers %#v, not %#v", c.Call, r, want)
	}
}

// Check says whether what keys and values there are is as the map has it, of whatever number of buckets.
func (a *alone) Check() {
	a.t.Helper()
	a.Alone.Check()
	var keys []string
	for _, h := range a.M.Reach() {
		keys = append(keys, trial.KeyOf(a.M, h))
	}
	slices.Sort(keys)
	if l := a.is.Keys(); !slices.Equal(keys, l) {
		a.t.Fatalf("the keys are %q, not %q", keys, l)
	}
	for _, key := range keys {
		val, had := trial.ValOf(a.M, key)
		if is, ok := a.is.Get(key); is != val || ok != had {
			a.t.Fatalf("the key %q has %q, %v, not %q, %v", key, val, had, is, ok)
		}
	}
}

// End looks at what there is, and at what is left of it when all that waits is freed.
func (a *alone) End() {
	a.t.Helper()
	a.Check()
	a.Drain()
	a.Check()
}

// P19.1, W5: all short rows of calls that are run one after the other, of one worker, and of two by turns, with drains ahead of every other call, of arenas of 1 to 3 places: each answers what the map answers, and what keys and values there are is as the map has it.
func TestShortRowsRun(t *testing.T) {
	plainmap.ShortRows(func(room int, r plainmap.Rows) plainmap.Doer { return newAlone(t, room, r) })
}

// P19.1, W5: long rows of calls that are run one after the other, of one worker, and of several by turns, that are picked, with drains between them, of small arenas and of larger ones, in tables of many numbers of buckets, calls that are refused among them: the same.
func TestLongRowsRun(t *testing.T) {
	plainmap.LongRows(t, 50, 4096, func(room int, r plainmap.Rows) plainmap.Doer { return newAlone(t, room, r) })
}
