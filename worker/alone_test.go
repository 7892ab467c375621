package worker

import (
	"testing"

	"quietus/calls"
	"quietus/plainmap"
	"quietus/trial"
)

// alone is a memory whose workers do their calls one after the other, one that frees, and the abstract map.
type alone struct {
	*plainmap.Alone
	t       *testing.T
	workers []*Worker
	d       *Drainer
	// left are each worker's calls that aren't done, and now is how many steps of workers there were.
	left [][]plainmap.Refused
	now  int
}

// newAlone is one of a worker for each list.
func newAlone(t *testing.T, room int, lists ...[]plainmap.Refused) *alone {
	t.Helper()
	x := &alone{Alone: plainmap.New(t, room, len(lists)), t: t, d: NewDrainer(len(lists)), left: lists}
	for number, l := range lists {
		var own []calls.Call
		for _, c := range l {
			own = append(own, c.Call)
		}
		x.workers = append(x.workers, New(number, own))
	}
	return x
}

// do has a worker do its next call, with nothing beside it: the entry's result is what the abstract map answers.
func (x *alone) do(worker int) {
	x.t.Helper()
	w, c := x.workers[worker], x.left[worker][0]
	x.left[worker] = x.left[worker][1:]
	want := x.Do(c.Call, c.Err)
	begin := x.now
	for done := false; !done; x.now++ {
		if !w.Ready(x.M) || !w.Left() {
			x.t.Fatalf("%#v of %d, alone, isn't ready", c.Call, worker)
		}
		var e Entry
		if e, done = w.Step(x.M, x.now); done && (e.Call != c.Call || e.Begin != begin || e.Result != want) {
			x.t.Fatalf("of %#v, begun at %d, the entry is %#v, not of %v", c.Call, begin, e, want)
		}
	}
	if left := len(x.left[worker]) > 0; w.Left() != left {
		x.t.Fatalf("behind %#v Left = %v", c.Call, !left)
	}
}

// drain has the one that frees go on till it isn't ready: nothing waits then, and it is idle.
func (x *alone) drain() {
	x.t.Helper()
	for x.d.Ready(x.M) {
		x.d.Step(x.M)
	}
	if x.M.Waiting() > 0 || !x.d.Idle() {
		x.t.Fatalf("behind drains %d wait, Left = %v", x.M.Waiting(), x.d.Left())
	}
}

// some says who have calls left.
func (x *alone) some() []int {
	var l []int
	for worker, left := range x.left {
		if len(left) > 0 {
			l = append(l, worker)
		}
	}
	return l
}

// mayBe are calls that may be.
func mayBe(l ...calls.Call) []plainmap.Refused {
	var all []plainmap.Refused
	for _, c := range l {
		all = append(all, plainmap.Refused{Call: c})
	}
	return all
}

// P17.1, W5: all short rows of calls of a worker alone, and of two by turns, call by call, with drains ahead of every other call, of arenas of 1 to 3 places: each answer is that of the abstract map; what keys and values there are is as the map has it, and all that waits is freed.
func TestShortRows(t *testing.T) {
	short := plainmap.Short()
	n := len(short)
	for row := range n * n * n * n {
		l := []calls.Call{short[row%n], short[row/n%n], short[row/n/n%n], short[row/n/n/n]}
		room := 1 + row%3
		one := newAlone(t, room, mayBe(l...))
		two := newAlone(t, room, mayBe(l[0], l[2]), mayBe(l[1], l[3]))
		for i := range l {
			one.do(0)
			two.do(i % 2)
			if i%2 == row/3%2 {
				one.drain()
				two.drain()
			}
		}
		for _, x := range []*alone{one, two} {
			x.Check()
			x.drain()
			x.Check()
		}
	}
}

// P17.1, P17.2, W5: long rows of calls, of one worker, and of several by turns, call by call, that are picked, with drains between them, of small arenas and of larger ones, in tables of many numbers of buckets, calls that are refused among them: the same.
func TestLongRows(t *testing.T) {
	full, replacing := 0, 0
	for workers := 1; workers <= mostWorkers; workers++ {
		for _, room := range []int{1, 2, 5, 12, 40} {
			for seed := range uint32(3) {
				next := trial.Picker((seed*mostWorkers+uint32(workers))*64 + uint32(room))
				lists := make([][]plainmap.Refused, workers)
				for range 150 {
					worker := next(workers)
					lists[worker] = append(lists[worker], plainmap.PickAny(next))
				}
				x := newAlone(t, room, lists...)
				for l := x.some(); len(l) > 0; l = x.some() {
					x.do(l[next(len(l))])
					if next(6) == 0 {
						x.drain()
					}
					x.Check()
				}
				full, replacing = full+x.Full, replacing+x.Replacing
			}
		}
	}
	if full-replacing < 300 || replacing < 300 {
		t.Errorf("of %d Puts that were refused %d were of keys that were there", full, replacing)
	}
}
