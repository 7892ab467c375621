package trial

import (
	"testing"

	"quietus/arena"
	"quietus/mem"
)

// Each place is free, reached, waiting, or one thread's; of one that is none of these, or two, and of a flag that is up, it is told.
func TestPlaces(t *testing.T) {
	for i, c := range []struct {
		alone []arena.Handle
		wrong bool
		do    func(m *mem.Mem)
	}{
		{nil, true, func(*mem.Mem) {}},
		{[]arena.Handle{3}, false, func(*mem.Mem) {}},
		{[]arena.Handle{3, 3}, true, func(*mem.Mem) {}},
		{[]arena.Handle{2, 3}, true, func(*mem.Mem) {}},
		{[]arena.Handle{3, 1}, true, func(*mem.Mem) {}},
		{[]arena.Handle{3, 0}, true, func(*mem.Mem) {}},
		{[]arena.Handle{3, 4}, true, func(*mem.Mem) {}},
		{nil, false, func(m *mem.Mem) { m.Arena.Free(3) }},
		{[]arena.Handle{3}, true, func(m *mem.Mem) { m.Arena.Free(3) }},
		{[]arena.Handle{3}, true, func(m *mem.Mem) { m.Retire(2) }},
		{[]arena.Handle{3}, true, func(m *mem.Mem) { m.Take() }},
		{[]arena.Handle{3}, true, func(m *mem.Mem) { m.Arena.Free(2) }},
		{[]arena.Handle{2, 3}, false, func(m *mem.Mem) { m.Take() }},
		{[]arena.Handle{3}, true, func(m *mem.Mem) { m.Arena.Read(0) }},
	} {
		m, _ := mem.New(5, 1)
		for range 3 {
			Alloc(t, m, arena.Node{})
		}
		m.Cells.Store(m.Now().Base, 1)
		m.Retire(2)
		c.do(m)
		if wrong := Told(func(t T) { Places(t, m, c.alone) }); wrong != c.wrong {
			t.Errorf("of the places %d a fault is told: %v", i, wrong)
		}
	}
}

// Of a lock that is held, and of one who is in, it is told; a period that was raised doesn't matter.
func TestAtRest(t *testing.T) {
	m, _ := mem.New(1, 2)
	m.Cells.Store(0, 7)
	AtRest(t, m)
	for lock := range 6 {
		m.Locks.Try(lock, 0)
		if !Told(func(t T) { AtRest(t, m) }) {
			t.Errorf("of the lock %d nothing is told", lock)
		}
		m.Locks.Free(lock, 0)
	}
	for worker := range 2 {
		m.Cells.Store(firstCounter+worker, 1)
		if !Told(func(t T) { AtRest(t, m) }) {
			t.Errorf("of the worker %d nothing is told", worker)
		}
		m.Cells.Store(firstCounter+worker, 0)
	}
	AtRest(t, m)
}
