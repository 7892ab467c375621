package trial

import (
	"slices"

	"quietus/arena"
	"quietus/mem"
)

// Places says whether each place is free, or reached, or waits, or is one of those that one thread alone knows of, one of these alone, and the flag is down.
func Places(t T, m *mem.Mem, alone []arena.Handle) {
	t.Helper()
	s := Look(m)
	all := slices.Sorted(slices.Values(slices.Concat(m.Reach(), s.Waiting, alone)))
	live := slices.Sorted(slices.Values(s.Live()))
	// What is live comes once, so that a handle that is told of twice is seen as well.
	if !slices.Equal(all, live) || len(all)+s.Free != m.Arena.Room() || s.Fault {
		t.Fatalf("%d are free, these are told of: %v, live are %v, the flag is up: %v", s.Free, all, live, s.Fault)
	}
}

// AtRest says whether no lock is held, and nobody is in.
func AtRest(t T, m *mem.Mem) {
	t.Helper()
	for lock := range m.Locks.Len() {
		if holder := m.Locks.Holder(lock); holder != -1 {
			t.Fatalf("the lock %d has %d", lock, holder)
		}
	}
	if in := In(m); len(in) > 0 {
		t.Fatalf("%v are in", in)
	}
}
