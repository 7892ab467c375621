// Package plainmap is what the tests of those layers share that do calls of the map: the abstract map, told by its chapter's words, a memory on which calls are done one after the other, calls of all kinds, rows of them, and plans of which all ways are gone through. The layers themselves don't use it.
package plainmap

import (
	"slices"

	"quietus/api"
	"quietus/calls"
	"quietus/mem"
	"quietus/retire"
	"quietus/trial"
)

const (
	mostWorkers = 8
	// most is more steps than any call, or any drain, of the tests has to take.
	most = 10000000
)

// Map is the abstract map.
type Map map[string]string

// Do does a call that may be, and says what is answered; if full, no place is free.
func (a Map) Do(c calls.Call, full bool) calls.Result {
	val, had := a[c.Key]
	switch c.Kind {
	case getKind:
		return calls.Result{Had: had, Val: val}
	case putKind:
		if full {
			return calls.Result{Err: api.ErrFull}
		}
		a[c.Key] = c.Val
		return calls.Result{Had: had}
	case deleteKind:
		delete(a, c.Key)
		return calls.Result{Had: had, Val: val}
	}
	if !slices.Contains(trial.Powers(), c.Size) {
		return calls.Result{Err: api.ErrSize}
	}
	return calls.Result{}
}

// DoneBy has a call of a worker take all steps, with nothing beside it, and says what it answers.
func DoneBy(t trial.T, m *mem.Mem, worker int, c calls.Call) calls.Result {
	t.Helper()
	run := calls.New(worker, c)
	_, done := mem.Finish(m, run, most)
	r, ok := run.Result()
	if !done || !ok {
		t.Fatalf("%#v of %d: done: %v; Result = %v, %v", c, worker, done, r, ok)
	}
	return r
}

// Alone is a memory on which calls are done one after the other, and the abstract map on which they are done, too.
type Alone struct {
	T    trial.T
	M    *mem.Mem
	Vals Map
	// Full is how many Puts were refused, and Replacing how many of these were of keys that were there.
	Full, Replacing int

	// n is the number of buckets that there has to be.
	n int
	// keys are all that calls were of.
	keys []string
}

// New is an empty memory.
func New(t trial.T, room, workers int) *Alone {
	t.Helper()
	m, e := mem.New(room, workers)
	if e != api.OK {
		t.Fatalf("mem.New(%d, %d): %v", room, workers, e)
	}
	return &Alone{T: t, M: m, Vals: Map{}, n: 1}
}

// Do does a call on the abstract map, and says what has to be answered by it on the memory, on which it wasn't done yet: by one that is refused nothing is done.
func (x *Alone) Do(c calls.Call, refused api.Errno) calls.Result {
	if refused != api.OK {
		return calls.Result{Err: refused}
	}
	x.keys = append(x.keys, c.Key)
	want := x.Vals.Do(c, x.M.Arena.Spare() == 0)
	if want.Err == api.ErrFull {
		x.Full++
		if _, had := x.Vals[c.Key]; had {
			x.Replacing++
		}
	}
	if c.Kind == resizeKind && want.Err == api.OK {
		x.n = c.Size
	}
	return want
}

// Refusals is how many Puts were refused as no place was free, and how many of these were of keys that were there.
func (x *Alone) Refusals() (full, replacing int) { return x.Full, x.Replacing }

// Drain frees all that waits.
func (x *Alone) Drain() {
	x.T.Helper()
	if _, done := mem.Finish(x.M, retire.New(x.M.Workers()), most); done && x.M.Waiting() > 0 {
		x.T.Fatalf("behind a drain %d wait", x.M.Waiting())
	}
}

// Check says whether the keys and values that there are are those of the abstract map, and each place is free, reached, or waiting, nobody is in, and no lock is held.
func (x *Alone) Check() {
	x.T.Helper()
	for _, key := range x.keys {
		val, had := x.Vals[key]
		if is, ok := trial.ValOf(x.M, key); is != val || ok != had {
			x.T.Fatalf("the key %q has %q, %v, not %q, %v", key, is, ok, val, had)
		}
	}
	reach, spare := x.M.Reach(), x.M.Arena.Spare()
	if len(reach) != len(x.Vals) || len(reach)+x.M.Waiting()+spare != x.M.Arena.Room() || x.M.Arena.Fault() {
		x.T.Fatalf("of %d keys %v are reached, %d wait, %d are free", len(x.Vals), reach, x.M.Waiting(), spare)
	}
	if x.M.Now().N != x.n {
		x.T.Fatalf("the table is %v, not of %d", x.M.Now(), x.n)
	}
	trial.AtRest(x.T, x.M)
}
