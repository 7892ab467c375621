package worker

import (
	"slices"
	"testing"

	"quietus/calls"
	"quietus/mem"
	"quietus/plainmap"
	"quietus/trial"
)

// lengths are how many calls a list may have: none, one, as many as a machine's lists may have, one more, and many.
func lengths() []int { return []int{0, 1, 2, mostCalls - 1, mostCalls, mostCalls + 1, 1000} }

// P17.1: of no calls, of one, of 50 and of more, all are done, each once, in order.
func TestLengths(t *testing.T) {
	for _, n := range lengths() {
		l := plainmap.Long(n, 0)
		m, _ := mem.New(40, 2)
		is := done(t, m, New(1, l))
		if len(is) != n {
			t.Fatalf("of %d calls %d are done", n, len(is))
		}
		for i, e := range is {
			if e.Index != i || e.Call != l[i] || i == 0 && e.Begin != 0 || i > 0 && e.Begin != is[i-1].End+1 {
				t.Fatalf("of %d calls the entry %d is %#v", n, i, e)
			}
		}
	}
}

// P17.1, R4: nil is a list of no calls.
func TestNoCalls(t *testing.T) {
	m, _ := mem.New(1, 1)
	for _, l := range [][]calls.Call{nil, {}, plainmap.Long(0, 3)} {
		x := newPair(t, m, m, 0, l)
		if x.w.Left() || x.w.Ready(m) || x.finish(0) != 0 {
			t.Fatal("without calls one is left")
		}
	}
}

// P17.1, R3: a list that was handed in, changed behind New, or between any two steps, with the room behind its end, changes nothing of what the worker does.
func TestListIsChanged(t *testing.T) {
	for _, n := range lengths() {
		m, _ := mem.New(40, 1)
		want := done(t, m, New(0, plainmap.Long(n, 0)))
		steps := 0
		if n > 0 {
			steps = want[n-1].End + 1
		}
		for _, ahead := range []int{0, 1, steps / 2, steps - 1} {
			m, _ := mem.New(40, 1)
			l := plainmap.Long(n, 5)
			w := New(0, l)
			var is []Entry
			for now := 0; w.Left(); now++ {
				if now == ahead {
					plainmap.Spoil(l)
				}
				if e, done := w.Step(m, now); done {
					is = append(is, e)
				}
			}
			if !slices.Equal(is, want) {
				t.Fatalf("of %d calls, changed ahead of the step %d, the entries are %v, not %v", n, ahead, is, want)
			}
		}
	}
}

// P17.1, R3: a list that was handed in isn't changed, nor the room behind its end, by New, and by none of the worker's steps.
func TestListStays(t *testing.T) {
	for _, n := range lengths() {
		l := plainmap.Long(n, 5)
		same := slices.Clone(l[:cap(l)])
		m, _ := mem.New(40, 1)
		w := New(0, l)
		for now := 0; w.Left(); now++ {
			if !slices.Equal(l[:cap(l)], same) {
				t.Fatalf("of %d calls, ahead of the step %d the list is %v, not %v", n, now, l[:cap(l)], same)
			}
			w.Step(m, now)
		}
		if !slices.Equal(l[:cap(l)], same) {
			t.Fatalf("of %d calls, behind all steps the list is %v, not %v", n, l[:cap(l)], same)
		}
	}
}

// P17.1, R3: workers of one list, or of pieces of it, know nothing of each other: each does what it was handed.
func TestOneList(t *testing.T) {
	keys := trial.KeysByTurns(2, 3)
	l := plainmap.Of(keys)
	one, two := tablePair(t, 2, 0, keys, false, l), tablePair(t, 2, 1, keys, false, l)
	piece := tablePair(t, 2, 1, keys, false, l[3:7])
	for now := 0; one.left() || two.left() || piece.left(); now++ {
		for _, x := range []*pair{one, two, piece, two} {
			x.take(now)
		}
	}
	for _, x := range []*pair{one, two, piece} {
		x.same("behind all steps")
	}
}
