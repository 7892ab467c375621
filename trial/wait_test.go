package trial

import (
	"testing"

	"quietus/mem"
	"quietus/qsbr"
)

// waitOn has a wait, and the plain one, take steps as long as they are ready, and one more, if they aren't done, and says whether they are.
func waitOn(t *testing.T, m *mem.Mem, f *qsbr.Wait, p *PlainWait) bool {
	t.Helper()
	take := func() bool { return f.Step(m) }
	for p.Ready(Look(m)) {
		if StepAs(t, m, f, p, take, "a step of a wait") {
			return true
		}
	}
	return StepAs(t, m, f, p, take, "a step for which it isn't ready")
}

// A plain wait does what layer 6's does, and waits for the lock, and for the last worker, if that is in since an elder period.
func TestPlainWait(t *testing.T) {
	for workers := 1; workers <= 3; workers++ {
		for counter, in := range map[uint64]bool{0: false, 6: true, 7: true, 8: false, 9: false} {
			m := HeldTable(t, workers, 0, [][]string{nil})
			last := workers - 1
			m.Cells.Store(firstCounter+last, counter)
			m.Locks.Try(periodLock, somebody)
			f, p := qsbr.Sync(0), &PlainWait{}
			if waitOn(t, m, f, p) || !p.Takes() {
				t.Fatal("it is done, or beyond its first step, though the lock is held")
			}
			m.Locks.Free(periodLock, somebody)
			done := waitOn(t, m, f, p)
			if worker, looks := p.Looks(); done == in || looks != in || in && worker != last {
				t.Fatalf("of %d workers, the last one's counter %d, it is done: %v; it looks at %d: %v", workers, counter, done, worker, looks)
			}
			m.Cells.Store(firstCounter+last, 0)
			if in && !waitOn(t, m, f, p) || p.Takes() {
				t.Fatal("it isn't done, though all are out")
			}
		}
	}
}
