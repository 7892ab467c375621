package plainmap

import (
	"slices"
	"testing"

	"quietus/calls"
	"quietus/trial"
)

// Rows say who have calls left, which are cut off one after the other, and which calls they are.
func TestRows(t *testing.T) {
	get, put := calls.Call{Key: "a"}, calls.Call{Kind: putKind, Key: "a"}
	r := Rows{mayBe(get, put), nil, mayBe(put)}
	l := r.Calls()
	if len(l) != 3 || !slices.Equal(l[0], []calls.Call{get, put}) || len(l[1]) != 0 || !slices.Equal(l[2], []calls.Call{put}) {
		t.Errorf("the calls are %v", l)
	}
	if !slices.Equal(r.Some(), []int{0, 2}) || r.Cut(0).Call != get || r.Cut(2).Call != put || !slices.Equal(r.Some(), []int{0}) || r.Cut(0).Call != put || len(r.Some()) != 0 {
		t.Errorf("left are %v", r)
	}
}

// doer does calls by cutting them off, and counts what it is had to do.
type doer struct {
	Rows
	refused                    int
	drains, ends, checks, done *int
}

func (d *doer) Drain() { *d.drains++ }
func (d *doer) Check() { *d.checks++ }

// End is reached when no call is left.
func (d *doer) End() {
	if len(d.Some()) == 0 {
		*d.ends++
	}
}

// Refusals are as many as are said.
func (d *doer) Refusals() (full, replacing int) { return 2 * d.refused, d.refused }

// Do counts the call.
func (d *doer) Do(worker int) {
	d.Cut(worker)
	*d.done++
}

// All short rows are done, of one worker and of two, each call once.
func TestShortRows(t *testing.T) {
	rows, drains, ends, checks, done := 0, 0, 0, 0, 0
	ShortRows(func(room int, r Rows) Doer {
		if room < 1 || room > 3 || len(slices.Concat(r...)) != 4 {
			t.Errorf("of the room %d there are %v", room, r)
		}
		rows++
		return &doer{Rows: r, drains: &drains, ends: &ends, checks: &checks, done: &done}
	})
	n := len(Short())
	if rows != 2*n*n*n*n || ends != rows || done != 4*rows || drains != 2*rows {
		t.Errorf("of %d rows %d are at their ends, %d calls are done, %d drains", rows, ends, done, drains)
	}
}

// Long rows are done, of 1 to 8 workers, none longer than may be, of no greater tables; of few Puts that are refused it is told.
func TestLongRows(t *testing.T) {
	for _, refused := range []int{0, 100} {
		drains, ends, checks, done, all := 0, 0, 0, 0, 0
		workers := map[int]bool{}
		fault := trial.Told(func(t trial.T) {
			LongRows(t, 30, 16, func(room int, r Rows) Doer {
				workers[len(r)] = true
				for _, row := range r {
					all += len(row)
					for _, c := range row {
						if len(row) > 30 || slices.Contains([]int{32, 64, 65536}, c.Size) {
							t.Fatalf("there are %v", r)
						}
					}
				}
				return &doer{Rows: r, refused: refused, drains: &drains, ends: &ends, checks: &checks, done: &done}
			})
		})
		if fault != (refused == 0) || done != all || checks != all || ends != 8*5 || drains < all/9 || len(workers) != 8 || all < 3000 {
			t.Errorf("told: %v; of %d calls %d are done, %d drains, of %v workers", fault, all, done, drains, workers)
		}
	}
}

// still is a world in which nobody is ready.
type still struct{}

func (still) Ready() []int { return nil }
func (still) Step(int)     {}
func (still) End()         {}

// Of plans of which there are too few ways it is told.
func TestFewWays(t *testing.T) {
	if !trial.Told(func(t trial.T) { FewWays(t, func(Plan) trial.World { return still{} }) }) {
		t.Error("of one way alone nothing is told")
	}
	for _, p := range fewWays() {
		if p.Room < 1 || len(p.Ahead) > len(p.Lists)+1 {
			t.Errorf("the plan is %v", p)
		}
	}
}

// Plans that are picked have so many lists, of so many calls at most, each with room behind its end.
func TestPickPlan(t *testing.T) {
	longest := 0
	for seed := range uint32(50) {
		p := PickPlan(trial.Picker(seed), 3, 7)
		if len(p.Lists) != 3 || cap(p.Lists) == 3 || p.Room < 1 || p.Room > 12 {
			t.Errorf("the plan is %v", p)
		}
		for _, l := range p.Lists {
			longest = max(longest, len(l))
			if cap(l) == len(l) {
				t.Errorf("behind %v there is no room", l)
			}
		}
	}
	if longest != 7 {
		t.Errorf("the longest list has %d calls", longest)
	}
}
