package trial

import (
	"testing"

	"quietus/api"
	"quietus/mem"
	"quietus/qsbr"
)

// rowOf are frames of a row of two workers that are made so, taken for so many steps, and left alone.
func rowOf(t T, make func(worker int) Failing) *Frames {
	r := NewFrames(t, 2, 3)
	r.Make = make
	r.Go(300)
	r.LeaveAlone()
	return r
}

// wait makes waits.
func wait(worker int) Failing { return &waiter{Wait: qsbr.Sync(worker)} }

// Frames of a row that do one thing by each step, and come to their ends, are counted, and nothing is told of them.
func TestFramesOfRow(t *testing.T) {
	if r := rowOf(t, wait); r.Done < 10 || r.Fails != 0 {
		t.Errorf("%d are done, %d failed", r.Done, r.Fails)
	}
	r := rowOf(t, func(int) Failing { return &fails{left: 2} })
	if r.Done != r.Fails || r.Done < 100 {
		t.Errorf("%d are done, %d failed", r.Done, r.Fails)
	}
}

// Of frames that do too much, tell an error too early, have no end, or wait for ever, it is told.
func TestFramesOfRowFaults(t *testing.T) {
	two := func(m *mem.Mem) { m.Cells.Add(periodCell, 1); m.Cells.Add(currentCell, 1) }
	for i, make := range []func(worker int) Failing{
		func(int) Failing { return do(two) },
		func(int) Failing { return &fails{left: 2, early: true} },
		func(int) Failing { return &fails{left: 9000} },
		func(int) Failing { return wait(-1) },
		func(int) Failing { return &failing{Acts: do(two, two).Acts, e: api.ErrSize} },
	} {
		if !told(func(t T) { rowOf(t, make) }) {
			t.Errorf("of the fault %d nothing is told", i)
		}
	}
}
