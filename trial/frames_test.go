package trial

import (
	"testing"

	"quietus/api"
	"quietus/mem"
	"quietus/qsbr"
)

// rowOf are frames of a row of two workers that are made so, taken for so many steps, and left alone.
func rowOf(t T, make func(worker int) Failing) *Frames {
	r := NewFrames(t, 2, 3)
	r.Make = make
	r.Go(300)
	r.LeaveAlone()
	return r
}

// wait makes waits.
func wait(worker int) Failing { return &waiter{Wait: qsbr.Sync(worker)} }

// Frames of a row that do one thing by each step, and come to their ends, are counted, and nothing is told of them.
func TestFramesOfRow(t *testing.T) {
	if r := rowOf(t, wait); r.Done < 10 || r.Fails != 0 {
		t.Errorf("%d are done, %d failed", r.Done, r.Fails)
	}
	r := rowOf(t, func(int) Failing { return &fails{left: 2} })
	if r.Done != r.Fails || r.Done < 100 {
		t.Errorf("%d are done, %d failed", r.Done, r.Fails)
	}
}

// fickle is a frame that tells its error from the second one of its steps on, and takes it back by the fourth one, if it is.
type fickle struct {
	fails
	is bool
}

// Err is the error.
func (f *fickle) Err() api.Errno {
	if f.left > 3 || f.left == 1 && f.is {
		return api.OK
	}
	return api.ErrRange
}

// Of frames that have steps behind that by which they fail nothing is told, if they may; of one that takes its error back it is.
func TestFramesOfRowThatFree(t *testing.T) {
	for _, is := range []bool{false, true} {
		for _, frees := range []bool{false, true} {
			if Told(func(t T) {
				r := NewFrames(t, 2, 3)
				r.Frees, r.Make = frees, func(int) Failing { return &fickle{fails{left: 5}, is} }
				r.Go(300)
			}) != (is || !frees) {
				t.Errorf("fickle: %v, frees: %v, it is told wrongly", is, frees)
			}
		}
	}
}

// Left alone, frames go on that waited for locks that others had, or for each other.
func TestFramesLeftAlone(t *testing.T) {
	r := NewFrames(t, 3, 3)
	r.M.Locks.Try(resizeLock, somebody)
	r.Make = func(worker int) Failing {
		may := func(m *mem.Mem) bool { return m.Locks.Holder(resizeLock) == -1 }
		return &failing{Acts: Acts{Left: []Act{
			{Ready: may, Do: func(m *mem.Mem) { m.Locks.Try(resizeLock, worker) }},
			{Do: func(m *mem.Mem) { m.Locks.Free(resizeLock, worker) }},
		}}}
	}
	for worker := range r.now {
		r.now[worker] = r.Make(worker)
	}
	r.LeaveAlone()
}

// Of frames that do too much, tell an error too early, have no end, or wait for ever, it is told.
func TestFramesOfRowFaults(t *testing.T) {
	two := func(m *mem.Mem) { m.Cells.Add(periodCell, 1); m.Cells.Add(currentCell, 1) }
	for i, make := range []func(worker int) Failing{
		func(int) Failing { return do(two) },
		func(int) Failing { return &fails{left: 2, early: true} },
		func(int) Failing { return &fails{left: 9000} },
		func(int) Failing { return wait(-1) },
		func(int) Failing { return &failing{Acts: do(two, two).Acts, e: api.ErrSize} },
	} {
		if !Told(func(t T) { rowOf(t, make) }) {
			t.Errorf("of the fault %d nothing is told", i)
		}
	}
}
