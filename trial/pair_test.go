package trial

import (
	"testing"

	"quietus/api"
	"quietus/mem"
	"quietus/qsbr"
)

// waiter is a wait that tells an error.
type waiter struct {
	*qsbr.Wait
	e api.Errno
}

// Err is the error.
func (w *waiter) Err() api.Errno { return w.e }

// newPair is a wait, and the plain one, in a memory whose workers are in, or out.
func newPair(t T, in ...bool) (*Pair, *mem.Mem) {
	m := HeldTable(t, len(in), 0, [][]string{nil})
	for worker, in := range in {
		if in {
			m.Cells.Store(firstCounter+worker, 1)
		}
	}
	return &Pair{T: t, F: &waiter{Wait: qsbr.Sync(0)}, P: &PlainWait{}}, m
}

// A pair takes all steps, up to a worker that is in, and from there on.
func TestPair(t *testing.T) {
	x, m := newPair(t, false, true, false)
	x.Step(m)
	x.GoesTo(m, 1)
	m.Cells.Store(firstCounter+1, 0)
	if n := x.Finish(m); n != 3 {
		t.Errorf("from there on it takes %d steps", n)
	}
}

// Of a pair that waits for another worker, or for none, or isn't ready, or fails, it is told.
func TestPairFaults(t *testing.T) {
	for i, fault := range []func(t T){
		func(t T) { x, m := newPair(t, false, true, false); x.GoesTo(m, 2) },
		func(t T) { x, m := newPair(t, false, false, true); x.GoesTo(m, 1) },
		func(t T) { x, m := newPair(t, false); x.GoesTo(m, 0) },
		func(t T) { x, m := newPair(t, true); x.Finish(m) },
		func(t T) { x, m := newPair(t, true); m.Locks.Try(periodLock, 1); x.GoesTo(m, 0) },
		func(t T) { x, m := newPair(t, false); x.F.(*waiter).e = api.ErrSize; x.Step(m) },
		func(t T) { x, m := newPair(t, false); x.P = &PlainWait{Worker: 1}; x.Step(m) },
	} {
		if !Told(fault) {
			t.Errorf("of the fault %d nothing is told", i)
		}
	}
}

// fails is a frame of so many steps that tells an error by the last one, or too early, or that never ends, or changes something.
type fails struct {
	left    int
	early   bool
	changes bool
}

// Ready says that it is.
func (f *fails) Ready(*mem.Mem) bool { return true }

// Step takes its step.
func (f *fails) Step(m *mem.Mem) bool {
	f.left--
	if f.changes {
		m.Table(1)
	}
	return f.left <= 0
}

// Err is the error.
func (f *fails) Err() api.Errno {
	if f.early || f.left <= 0 {
		return api.ErrSize
	}
	return api.OK
}

// Of a frame that fails, and changes nothing, nothing is told; of one that doesn't fail so, or not by that error, or has no end, it is.
func TestFails(t *testing.T) {
	m := tableMem(t)
	Fails(t, m, &fails{left: 2}, api.ErrSize, "two steps")
	for i, fault := range []func(t T){
		func(t T) { Fails(t, m, &fails{left: 2}, api.ErrRange, "") },
		func(t T) { Fails(t, m, &fails{left: 2}, api.OK, "") },
		func(t T) { Fails(t, m, &fails{left: 20}, api.ErrSize, "") },
		func(t T) { Fails(t, m, &fails{left: 2, early: true}, api.ErrSize, "") },
		func(t T) { Fails(t, m, &fails{left: 2, changes: true}, api.ErrSize, "") },
		func(t T) { Fails(t, m, &fails{left: 1, changes: true}, api.ErrSize, "") },
	} {
		if !Told(fault) {
			t.Errorf("of the fault %d nothing is told", i)
		}
	}
}
