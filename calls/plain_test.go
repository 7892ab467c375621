package calls

import (
	"fmt"
	"slices"
	"strings"
	"testing"

	"quietus/api"
	"quietus/mem"
	"quietus/retire"
	"quietus/trial"
)

// abstract is the abstract map, told by its chapter's words.
type abstract map[string]string

// do does a call that may be, and says what is answered; if full, no place is free.
func (a abstract) do(c Call, full bool) Result {
	val, had := a[c.Key]
	switch c.Kind {
	case getKind:
		return Result{Had: had, Val: val}
	case putKind:
		if full {
			return Result{Err: api.ErrFull}
		}
		a[c.Key] = c.Val
		return Result{Had: had}
	case deleteKind:
		delete(a, c.Key)
		return Result{Had: had, Val: val}
	}
	if !slices.Contains(trial.Powers(), c.Size) {
		return Result{Err: api.ErrSize}
	}
	return Result{}
}

// alone is a memory on which calls are done one after the other, and the abstract map on which they are done, too.
type alone struct {
	t    *testing.T
	m    *mem.Mem
	vals abstract
	// n is the number of buckets that there has to be.
	n int
	// keys are all that calls were of.
	keys []string
	// full is how many Puts were refused, and replacing how many of these were of keys that were there.
	full, replacing int
}

// newAlone is an empty memory.
func newAlone(t *testing.T, room, workers int) *alone {
	t.Helper()
	m, e := mem.New(room, workers)
	if e != api.OK {
		t.Fatalf("mem.New(%d, %d): %v", room, workers, e)
	}
	return &alone{t: t, m: m, vals: abstract{}, n: 1}
}

// do does a call of a worker: it answers what the abstract map answers; by one that is refused nothing is done.
func (x *alone) do(worker int, c Call, refused api.Errno) {
	x.t.Helper()
	want := Result{Err: refused}
	if refused == api.OK {
		want = x.vals.do(c, x.m.Arena.Spare() == 0)
		x.keys = append(x.keys, c.Key)
	}
	if want.Err == api.ErrFull {
		x.full++
		if _, had := x.vals[c.Key]; had {
			x.replacing++
		}
	}
	if c.Kind == resizeKind && want.Err == api.OK {
		x.n = c.Size
	}
	if r := doneBy(x.t, x.m, worker, c); r != want {
		x.t.Fatalf("%#v answers %v, not %v", c, r, want)
	}
}

// drain frees all that waits.
func (x *alone) drain() {
	x.t.Helper()
	if _, done := mem.Finish(x.m, retire.New(x.m.Workers()), most); done && x.m.Waiting() > 0 {
		x.t.Fatalf("behind a drain %d wait", x.m.Waiting())
	}
}

// check says whether the keys and values that there are are those of the abstract map, and each place is free, reached, or waiting, nobody is in, and no lock is held.
func (x *alone) check() {
	x.t.Helper()
	for _, key := range x.keys {
		val, had := x.vals[key]
		if is, ok := trial.ValOf(x.m, key); is != val || ok != had {
			x.t.Fatalf("the key %q has %q, %v, not %q, %v", key, is, ok, val, had)
		}
	}
	reach, spare := x.m.Reach(), x.m.Arena.Spare()
	if len(reach) != len(x.vals) || len(reach)+x.m.Waiting()+spare != x.m.Arena.Room() || x.m.Arena.Fault() {
		x.t.Fatalf("of %d keys %v are reached, %d wait, %d are free", len(x.vals), reach, x.m.Waiting(), spare)
	}
	if in := trial.In(x.m); len(in) > 0 || x.m.Now().N != x.n {
		x.t.Fatalf("%v are in; the table is %v, not of %d", in, x.m.Now(), x.n)
	}
	for lock := range x.m.Locks.Len() {
		if holder := x.m.Locks.Holder(lock); holder != -1 {
			x.t.Fatalf("the lock %d has %d", lock, holder)
		}
	}
}

// shortCalls are so few that all short rows of them can be gone through; behind them is a drain.
func shortCalls() []Call {
	return []Call{
		{Kind: getKind, Key: "a"}, {Kind: getKind, Key: "b"}, {Kind: putKind, Key: "a", Val: "x"}, {Kind: putKind, Key: "a"}, {Kind: putKind, Key: "b", Val: "y"},
		{Kind: deleteKind, Key: "a"}, {Kind: deleteKind, Key: "b"}, {Kind: resizeKind, Size: 1}, {Kind: resizeKind, Size: 2}, {Kind: resizeKind, Size: 3},
	}
}

// P16.1, P16.2, W5: all short rows of calls, one after the other, with drains between them, of arenas of 1 to 3 places: each answers what the abstract map answers; a Put is refused just if no place is free; what keys and values there are is as the map has it.
func TestShortRows(t *testing.T) {
	l := shortCalls()
	rows := 1
	for range 4 {
		rows *= len(l) + 1
	}
	for room := 1; room <= 3; room++ {
		for row := range rows {
			x := newAlone(t, room, 1)
			for left := row; left > 0; left /= len(l) + 1 {
				if i := left % (len(l) + 1); i < len(l) {
					x.do(0, l[i], api.OK)
				} else {
					x.drain()
				}
			}
			x.check()
		}
	}
}

// manyKeys are keys of all kinds that may be.
func manyKeys() []string {
	return slices.DeleteFunc(trial.Keys(), func(key string) bool { return key == "" || len(key) > 32 })
}

// pickVal is a value that may be, which is empty now and then.
func pickVal(next func(n int) int) string {
	return strings.Repeat(string([]byte{byte(next(256))}), []int{0, 1, 2, 31, 32}[next(5)])
}

// pickSize is a size that may be, or, now and then, may not.
func pickSize(next func(n int) int) int {
	if next(6) == 0 {
		return sizes()[next(len(sizes()))]
	}
	return trial.Powers()[next(7)]
}

// pickCall is a call that may be, of few keys more often than of others.
func pickCall(next func(n int) int) Call {
	keys := manyKeys()
	key := keys[next(len(keys))]
	if next(2) == 0 {
		key = keys[next(4)]
	}
	kind := []Kind{getKind, putKind, putKind, putKind, deleteKind, resizeKind}[next(6)]
	return Call{Kind: kind, Key: key, Val: pickVal(next), Size: pickSize(next)}
}

// longRow does many calls, one after the other, by turns of workers.
func (x *alone) longRow(next func(n int) int) {
	x.t.Helper()
	wrong := refusedCalls()
	for range 150 {
		worker := next(x.m.Workers())
		switch i := next(20); {
		case i < 3:
			x.drain()
		case i == 3:
			c := wrong[next(len(wrong))]
			x.do(worker, c.Call, c.err)
		default:
			x.do(worker, pickCall(next), api.OK)
		}
		x.check()
	}
}

// P16.1, P16.2, W5: long rows of calls, one after the other, of one worker and of several by turns, with drains between them, of small arenas and of larger ones, in tables of many numbers of buckets, calls that are refused among them: the same.
func TestLongRows(t *testing.T) {
	full, replacing := 0, 0
	for workers := 1; workers <= mostWorkers; workers++ {
		for _, room := range []int{1, 2, 5, 12, 40} {
			for seed := range uint32(4) {
				x := newAlone(t, room, workers)
				x.longRow(trial.Picker((seed*mostWorkers+uint32(workers))*64 + uint32(room)))
				full, replacing = full+x.full, replacing+x.replacing
			}
		}
	}
	if full-replacing < 500 || replacing < 500 {
		t.Errorf("of %d Puts that were refused %d were of keys that were there", full, replacing)
	}
}

// P16.1, P16.2: in tables of each number of buckets that may be, to which a Resize comes from each next to it, calls answer what the abstract map answers, and there is what was there.
func TestEachSize(t *testing.T) {
	x := newAlone(t, 60, 2)
	all := trial.Powers()
	back := slices.Clone(all)
	slices.Reverse(back)
	for i, size := range slices.Concat(all, back[1:], []int{64, 64, 1}) {
		x.do(i%2, Call{Kind: resizeKind, Size: size}, api.OK)
		x.check()
		for j, key := range manyKeys() {
			x.do(j%2, Call{Kind: getKind, Key: key}, api.OK)
			switch (i + j) % 3 {
			case 0:
				x.do(j%2, Call{Kind: putKind, Key: key, Val: fmt.Sprint(size)}, api.OK)
			case 1:
				x.do(j%2, Call{Kind: deleteKind, Key: key}, api.OK)
			}
		}
		x.check()
		x.drain()
		x.check()
	}
}

// P16.2, W5: an arena of each room takes just as many keys; the next Put is refused, also one of a key that is there, and one that would put in what that key has; behind a Delete, it is refused till a drain frees the place.
func TestFull(t *testing.T) {
	for _, room := range []int{1, 2, 3, 16, 1024} {
		x := newAlone(t, room, 1)
		x.do(0, Call{Kind: resizeKind, Size: 16}, api.OK)
		for i := range room {
			x.do(0, Call{Kind: putKind, Key: fmt.Sprint(i), Val: "v"}, api.OK)
		}
		refused := func() {
			t.Helper()
			for _, c := range []Call{{Kind: putKind, Key: "new"}, {Kind: putKind, Key: "0", Val: "w"}, {Kind: putKind, Key: "0", Val: "v"}} {
				answers(t, x.m, c, Result{Err: api.ErrFull})
				x.check()
			}
		}
		refused()
		x.do(0, Call{Kind: deleteKind, Key: "0"}, api.OK)
		refused()
		x.drain()
		x.do(0, Call{Kind: putKind, Key: "0", Val: "w"}, api.OK)
		x.check()
	}
}
