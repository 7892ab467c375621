package trial

import (
	"slices"
	"testing"

	"quietus/arena"
)

// met is what rows came to.
type met struct{ tables, wrong, held, waiting, full, live, stale bool }

// note keeps what a row is at.
func (x *met) note(r *Row, s Seen) {
	x.tables = x.tables || len(s.Tables) > 2
	x.wrong = x.wrong || r.M.Now().N == 0
	x.held = x.held || slices.Contains(s.Holders, somebody)
	x.full = x.full || s.Free == 0
	for cell := firstCounter + r.M.Workers(); cell < len(s.Words); cell++ {
		h := arena.Handle(s.Words[cell])
		x.live = x.live || r.M.Arena.Live(h)
		x.stale = x.stale || h != 0 && !r.M.Arena.Live(h)
	}
}

// Rows of the same seed come to the same memories; others do all that they may, and never use a handle that is stale.
func TestRows(t *testing.T) {
	var x met
	for workers := 1; workers <= mostWorkers; workers++ {
		r, o := NewRow(t, workers, 3), NewRow(t, workers, 3)
		keys := map[string]bool{}
		for range 300 {
			r.Disturb()
			o.Disturb()
			if key := r.Key(); key != o.Key() {
				t.Fatalf("the key is %q", key)
			} else {
				keys[key] = true
			}
			s := Look(r.M)
			s.Check(t, o.M, "two rows of the same seed")
			x.note(r, s)
		}
		if r.M.Workers() != workers || r.M.Arena.Fault() || len(keys) != len(rowKeys()) {
			t.Fatalf("of %d workers there are %d, the keys are %v", workers, r.M.Workers(), keys)
		}
		r.M.Retire(1)
		for range 300 {
			r.Disturb()
		}
		x.waiting = x.waiting || r.M.Waiting() == 0
	}
	if x != (met{true, true, true, true, true, true, true}) {
		t.Errorf("rows came to %+v", x)
	}
}
