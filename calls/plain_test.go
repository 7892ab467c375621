package calls_test

import (
	"fmt"
	"slices"
	"testing"

	"quietus/api"
	. "quietus/calls"
	"quietus/plainmap"
	"quietus/trial"
)

// alone is a memory on which calls are done one after the other, and the abstract map.
type alone struct {
	*plainmap.Alone
	t *testing.T
}

// newAlone is an empty memory.
func newAlone(t *testing.T, room, workers int) alone {
	t.Helper()
	return alone{plainmap.New(t, room, workers), t}
}

// do does a call of a worker: it answers what the abstract map answers.
func (x alone) do(worker int, c Call, refused api.Errno) {
	x.t.Helper()
	want := x.Do(c, refused)
	if r := plainmap.DoneBy(x.t, x.M, worker, c); r != want {
		x.t.Fatalf("%#v answers %v, not %v", c, r, want)
	}
}

// P16.1, P16.2, W5: all short rows of calls, one after the other, with drains between them, of arenas of 1 to 3 places: each answers what the abstract map answers; a Put is refused just if no place is free; what keys and values there are is as the map has it.
func TestShortRows(t *testing.T) {
	l := plainmap.Short()
	rows := 1
	for range 4 {
		rows *= len(l) + 1
	}
	for room := 1; room <= 3; room++ {
		for row := range rows {
			x := newAlone(t, room, 1)
			for left := row; left > 0; left /= len(l) + 1 {
				if i := left % (len(l) + 1); i < len(l) {
					x.do(0, l[i], api.OK)
				} else {
					x.Drain()
				}
			}
			x.Check()
		}
	}
}

// longRow does many calls, one after the other, by turns of workers.
func (x alone) longRow(next func(n int) int) {
	x.t.Helper()
	for range 150 {
		if next(7) == 0 {
			x.Drain()
		} else {
			c := plainmap.PickAny(next)
			x.do(next(x.M.Workers()), c.Call, c.Err)
		}
		x.Check()
	}
}

// P16.1, P16.2, W5: long rows of calls, one after the other, of one worker and of several by turns, with drains between them, of small arenas and of larger ones, in tables of many numbers of buckets, calls that are refused among them: the same.
func TestLongRows(t *testing.T) {
	full, replacing := 0, 0
	for workers := 1; workers <= mostWorkers; workers++ {
		for _, room := range []int{1, 2, 5, 12, 40} {
			for seed := range uint32(4) {
				x := newAlone(t, room, workers)
				x.longRow(trial.Picker((seed*mostWorkers+uint32(workers))*64 + uint32(room)))
				full, replacing = full+x.Full, replacing+x.Replacing
			}
		}
	}
	if full-replacing < 500 || replacing < 500 {
		t.Errorf("of %d Puts that were refused %d were of keys that were there", full, replacing)
	}
}

// P16.1, P16.2: in tables of each number of buckets that may be, to which a Resize comes from each next to it, calls answer what the abstract map answers, and there is what was there.
func TestEachSize(t *testing.T) {
	x := newAlone(t, 60, 2)
	all := trial.Powers()
	back := slices.Clone(all)
	slices.Reverse(back)
	for i, size := range slices.Concat(all, back[1:], []int{64, 64, 1}) {
		x.do(i%2, Call{Kind: resizeKind, Size: size}, api.OK)
		x.Check()
		for j, key := range plainmap.Keys() {
			x.do(j%2, Call{Kind: getKind, Key: key}, api.OK)
			switch (i + j) % 3 {
			case 0:
				x.do(j%2, Call{Kind: putKind, Key: key, Val: fmt.Sprint(size)}, api.OK)
			case 1:
				x.do(j%2, Call{Kind: deleteKind, Key: key}, api.OK)
			}
		}
		x.Check()
		x.Drain()
		x.Check()
	}
}

// P16.2, W5: an arena of each room takes just as many keys; the next Put is refused, also one of a key that is there, and one that would put in what that key has; behind a Delete, it is refused till a drain frees the place.
func TestFull(t *testing.T) {
	for _, room := range []int{1, 2, 3, 16, 1024} {
		x := newAlone(t, room, 1)
		x.do(0, Call{Kind: resizeKind, Size: 16}, api.OK)
		for i := range room {
			x.do(0, Call{Kind: putKind, Key: fmt.Sprint(i), Val: "v"}, api.OK)
		}
		refused := func() {
			t.Helper()
			for _, c := range []Call{{Kind: putKind, Key: "new"}, {Kind: putKind, Key: "0", Val: "w"}, {Kind: putKind, Key: "0", Val: "v"}} {
				answers(t, x.M, c, Result{Err: api.ErrFull})
				x.Check()
			}
		}
		refused()
		x.do(0, Call{Kind: deleteKind, Key: "0"}, api.OK)
		refused()
		x.Drain()
		x.do(0, Call{Kind: putKind, Key: "0", Val: "w"}, api.OK)
		x.Check()
	}
}
