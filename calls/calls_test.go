// The tests stand outside their package, as plainmap, which they share with those of the layers above, uses it.
package calls_test

import (
	"fmt"
	"slices"
	"strings"
	"testing"

	"quietus/api"
	"quietus/arena"
	. "quietus/calls"
	"quietus/del"
	"quietus/get"
	"quietus/mem"
	"quietus/plainmap"
	"quietus/put"
	"quietus/resize"
	"quietus/trial"
)

// These are written out, so that the tests don't lean on the names that they hold.
const (
	mostWorkers  = 8
	mostCells    = 1048576
	mostBuckets  = 65536
	periodCell   = 0
	currentCell  = 1
	firstCounter = 2
	// far is how far apart the handles of one place are, from one generation to the next.
	far = 65536
	// somebody is the number of one who has locks, and is no worker.
	somebody = 1000
	// most is more steps than any call of the tests has to take.
	most = 10000000
)

// A call on its way is a frame.
var _ mem.Frame = (*Run)(nil)

// layer is the frame of the layer that does a call, and what is to be told of it: the node that nobody else knows of, and, when it is done, what is answered.
type layer struct {
	mem.Frame
	mine   func() arena.Handle
	answer func() Result
}

// noMine is of frames that never have a node that nobody else knows of.
func noMine() arena.Handle { return 0 }

// layerOf is the frame of a call that may be.
func layerOf(worker int, c Call) layer {
	switch c.Kind {
	case getKind:
		f := get.New(worker, c.Key)
		return layer{f, noMine, func() Result { return found(f.Val()) }}
	case putKind:
		f := put.New(worker, c.Key, c.Val)
		return layer{f, f.Mine, func() Result {
			if f.Err() == api.ErrFull {
				return Result{Err: api.ErrFull}
			}
			return Result{Had: f.Had()}
		}}
	case deleteKind:
		f := del.New(worker, c.Key)
		return layer{f, f.Mine, func() Result { return found(f.Had()) }}
	}
	f := resize.New(worker, c.Size)
	return layer{f, noMine, func() Result { return Result{Err: f.Err()} }}
}

// found is what is answered of a value, and whether it was there.
func found(val string, had bool) Result { return Result{Had: had, Val: val} }

// newLayer is the frame of a call; of one that is refused by this error it is one step, in which nothing is done.
func newLayer(worker int, c Call, refused api.Errno) layer {
	if refused == api.OK {
		return layerOf(worker, c)
	}
	still := trial.MakeActs(trial.Act{Do: func(*mem.Mem) {}})
	return layer{still(), noMine, func() Result { return Result{Err: refused} }}
}

// pair is a call on its way, and, of a twin memory that is as the call's own, the frame that tells what each step has to come to.
type pair struct {
	t    *testing.T
	run  *Run
	is   layer
	m, o *mem.Mem
	what string
	over bool
}

// newPair is a pair that took no step, by whose making nothing is changed; the call is refused by this error, if that isn't OK.
func newPair(t *testing.T, m, o *mem.Mem, worker int, c Call, refused api.Errno) *pair {
	t.Helper()
	x := &pair{t: t, m: m, o: o, what: fmt.Sprintf("%#v of %d", c, worker)}
	x.run, x.is = New(worker, c), newLayer(worker, c, refused)
	x.tells()
	return x
}

// tells says whether it tells what it has to, however often it is asked, and by the asking nothing is changed.
func (x *pair) tells() {
	x.t.Helper()
	var want Result
	if x.over {
		want = x.is.answer()
	}
	for range 2 {
		if r, done := x.run.Result(); r != want || done != x.over {
			x.t.Fatalf("%s: Result = %v, %v, not %v, %v", x.what, r, done, want, x.over)
		}
		if h := x.run.Mine(); h != x.is.mine() {
			x.t.Fatalf("%s: Mine = %d, not %d", x.what, h, x.is.mine())
		}
	}
	trial.Look(x.o).Check(x.t, x.m, x.what+", told")
}

// ready says whether both are.
func (x *pair) ready() bool {
	x.t.Helper()
	ready := x.is.Ready(x.o)
	for range 2 {
		if is := x.run.Ready(x.m); is != ready {
			x.t.Fatalf("%s: Ready = %v", x.what, is)
		}
	}
	trial.Look(x.o).Check(x.t, x.m, x.what+", Ready")
	return ready
}

// step has both take their step, ready or not: they come to the same, and the call tells so.
func (x *pair) step() {
	x.t.Helper()
	x.ready()
	done := x.run.Step(x.m)
	x.over = x.is.Step(x.o)
	if done != x.over {
		x.t.Fatalf("%s: Step = %v", x.what, done)
	}
	trial.Look(x.o).Check(x.t, x.m, x.what)
	x.tells()
}

// goOn has both go on as long as they are ready, and aren't done, for no more than so many steps, and says how many there were.
func (x *pair) goOn(steps int) int {
	x.t.Helper()
	for n := range steps {
		if x.over || !x.ready() {
			return n
		}
		x.step()
	}
	return steps
}

// finish has both take all steps that are left, for each of which they have to be ready, and says how many there were.
func (x *pair) finish() int {
	x.t.Helper()
	n := x.goOn(most)
	if !x.over {
		x.t.Fatalf("%s: behind %d steps it isn't ready", x.what, n)
	}
	return n
}

// tablePair is a pair of two memories of a table of such keys.
func tablePair(t *testing.T, workers, worker int, keys [][]string, full bool, c Call) *pair {
	t.Helper()
	return newPair(t, trial.TableOf(t, workers, keys, full), trial.TableOf(t, workers, keys, full), worker, c, api.OK)
}

// P16.1: each call that may be takes as many steps as the frame of its layer, in the same memory, each of which comes to the same, and for which it is ready just when that one is; ahead of the first step, between any two, and behind the last one it tells Mine as that one does, and as Result the zero one and false till it is done, and then what is answered, and true.
func TestEachStep(t *testing.T) {
	trial.EachTable(func(keys [][]string, full bool) {
		for _, c := range plainmap.Of(keys) {
			tablePair(t, 1, 0, keys, full, c).finish()
		}
	})
}

// P16.1: the same by whichever worker, of any number of them, while each other one is in, or out: a resize is ready behind a grow or a shrink just if all are out.
func TestEachWorker(t *testing.T) {
	keys := trial.KeysByTurns(2, 3)
	for workers := 1; workers <= mostWorkers; workers++ {
		for worker := range workers {
			for other := range workers {
				for _, c := range plainmap.Of(keys) {
					x := tablePair(t, workers, worker, keys, false, c)
					in := other != worker
					if in {
						x.each(func(m *mem.Mem) { m.Cells.Store(firstCounter+other, 7) })
					}
					x.goOn(most)
					turns := c.Kind == resizeKind && (c.Size == 1 || c.Size == 4 || c.Size == 8)
					if x.over == (in && turns) {
						t.Fatalf("%s, %d being in: %v; it is done: %v", x.what, other, in, x.over)
					}
					x.each(func(m *mem.Mem) { m.Cells.Store(firstCounter+other, 0) })
					x.goOn(most)
					if !x.over {
						t.Fatalf("%s, all being out, isn't done", x.what)
					}
				}
			}
		}
	}
}

// each does something to both memories.
func (x *pair) each(do func(m *mem.Mem)) {
	do(x.m)
	do(x.o)
}

// P16.1: whatever locks somebody has, ahead of whichever of its steps: a call is ready just when its layer's frame is, also for steps that are taken though it isn't; as soon as the locks are free it goes on as that one does.
func TestLocksHeld(t *testing.T) {
	keys := trial.KeysByTurns(2, 2)
	for _, c := range plainmap.Of(keys) {
		all := tablePair(t, 2, 1, keys, false, c).finish()
		for ahead := range all {
			for held := range 1 << 6 {
				x := tablePair(t, 2, 1, keys, false, c)
				x.goOn(ahead)
				x.each(func(m *mem.Mem) { trial.HoldSome(m, held) })
				if !x.ready() {
					x.step()
					x.step()
				}
				x.each(trial.FreeSome)
				if n := x.finish(); n != all-ahead {
					t.Fatalf("%s: behind %d steps, %b being held, it takes %d more", x.what, ahead, held, n)
				}
			}
		}
	}
}

// P16.1: another table that comes to count ahead of whichever of its steps, and one that stops counting again, matter as they do to its layer's frame; so does a place that comes to be taken, or free.
func TestBetweenSteps(t *testing.T) {
	keys := trial.KeysByTurns(2, 2)
	for _, c := range plainmap.Of(keys) {
		for ahead := range tablePair(t, 2, 1, keys, false, c).finish() {
			for _, do := range []func(m *mem.Mem){
				func(m *mem.Mem) { trial.Count(m, trial.NewTable(t, m, 2)) },
				func(m *mem.Mem) { trial.Count(m, trial.NewTable(t, m, 8)) },
				func(m *mem.Mem) { trial.Count(m, 0) },
				func(m *mem.Mem) { m.Cells.Store(currentCell, 9) },
				func(m *mem.Mem) { trial.Fill(t, m) },
				func(m *mem.Mem) { m.Arena.Alloc(arena.Node{}) },
				func(m *mem.Mem) { m.Arena.Free(3) },
				func(m *mem.Mem) { m.Take() },
				func(m *mem.Mem) { m.Arena.Read(0) },
			} {
				x := tablePair(t, 2, 1, keys, false, c)
				x.goOn(ahead)
				x.each(do)
				x.finish()
			}
		}
	}
}

// P16.1: a call that Check refuses is done in one step, for which it is ready whatever locks are held, by whomever, and whoever is in, by whichever worker, also by one that there isn't; nothing of the memory is changed; it answers that error, the rest zero.
func TestRefused(t *testing.T) {
	keys := trial.KeysByTurns(2, 3)
	for _, c := range plainmap.AllRefused() {
		for _, worker := range append(trial.NotWorkers(), 0, 1, 2) {
			for _, holder := range []int{-1, 0, somebody} {
				m, o := trial.TableOf(t, 2, keys, holder == 0), trial.TableOf(t, 2, keys, holder == 0)
				x := newPair(t, m, o, worker, c.Call, c.Err)
				x.each(func(m *mem.Mem) {
					for lock := range m.Locks.Len() {
						m.Locks.Try(lock, holder)
					}
					m.Cells.Store(firstCounter+1, uint64(1+holder))
				})
				before := trial.Look(m)
				if n := x.finish(); n != 1 {
					t.Fatalf("%s takes %d steps", x.what, n)
				}
				before.Check(t, m, x.what)
				if r, done := x.run.Result(); r != (Result{Err: c.Err}) || !done {
					t.Fatalf("%s: Result = %v, %v", x.what, r, done)
				}
			}
		}
	}
}

// answers says whether a call of the worker 0, with nothing beside it, answers this.
func answers(t *testing.T, m *mem.Mem, c Call, want Result) {
	t.Helper()
	if r := plainmap.DoneBy(t, m, 0, c); r != want {
		t.Fatalf("%#v answers %v, not %v", c, r, want)
	}
}

// The document's example: Put of a and x, Get of a: x; Delete of a: x; Get of a: not had.
func TestExample(t *testing.T) {
	m, _ := mem.New(1, 1)
	answers(t, m, Call{Kind: Put, Key: "a", Val: "x"}, Result{})
	answers(t, m, Call{Kind: Get, Key: "a"}, Result{Had: true, Val: "x"})
	answers(t, m, Call{Kind: Delete, Key: "a"}, Result{Had: true, Val: "x"})
	answers(t, m, Call{Kind: Get, Key: "a"}, Result{})
}

// P16.1: what is answered, written out: of a Get, and a Delete, of a key that is there its value, which may be empty, and of one that isn't nothing; of a Put whether the key was there, and no value; with no place free full, and else nothing, though the key is there; of a Resize nothing but its error.
func TestAnswers(t *testing.T) {
	m, _ := mem.New(2, 1)
	long := strings.Repeat("\xff", 32)
	for _, c := range []struct {
		Call
		want Result
	}{
		{Call{Kind: getKind, Key: "a", Val: "v", Size: 3}, Result{}},
		{Call{Kind: deleteKind, Key: "a", Val: "v", Size: 3}, Result{}},
		{Call{Kind: putKind, Key: "a", Val: "", Size: 3}, Result{}},
		{Call{Kind: getKind, Key: "a", Val: "v"}, Result{Had: true}},
		{Call{Kind: putKind, Key: "a", Val: long}, Result{Had: true}},
		{Call{Kind: getKind, Key: "a", Val: strings.Repeat("v", 33)}, Result{Had: true, Val: long}},
		// The elder node of a waits, so that no place is free.
		{Call{Kind: putKind, Key: "a", Val: "y"}, Result{Err: api.ErrFull}},
		{Call{Kind: putKind, Key: long, Val: "y"}, Result{Err: api.ErrFull}},
		{Call{Kind: getKind, Key: long}, Result{}},
		{Call{Kind: resizeKind, Key: "a", Val: "v", Size: 4}, Result{}},
		{Call{Kind: resizeKind, Key: "a", Val: "v", Size: 4}, Result{}},
		{Call{Kind: resizeKind, Key: "a", Val: "v", Size: 5}, Result{Err: api.ErrSize}},
		{Call{Kind: resizeKind, Size: 0}, Result{Err: api.ErrSize}},
		{Call{Kind: resizeKind, Size: -4}, Result{Err: api.ErrSize}},
		{Call{Kind: resizeKind, Size: 2 * mostBuckets}, Result{Err: api.ErrSize}},
		{Call{Kind: resizeKind, Key: strings.Repeat("k", 33), Val: strings.Repeat("v", 33), Size: 2}, Result{}},
		{Call{Kind: getKind, Key: "a"}, Result{Had: true, Val: long}},
		{Call{Kind: deleteKind, Key: "a", Val: strings.Repeat("v", 33)}, Result{Had: true, Val: long}},
		{Call{Kind: deleteKind, Key: "a"}, Result{}},
		{Call{Kind: getKind, Key: "a"}, Result{}},
	} {
		answers(t, m, c.Call, c.want)
	}
}

// P16.1: a Resize for which there is no room for cells answers range, when it is done, not ahead of that, though its layer's frame tells it then; the keys are there as ever.
func TestTooManyCells(t *testing.T) {
	keys := trial.KeysByTurns(2, 3)
	for _, c := range []struct {
		size, room int
		want       api.Errno
	}{{1, 0, api.ErrRange}, {1, 1, api.OK}, {8, 3, api.ErrRange}, {8, 4, api.ErrRange}, {8, 11, api.ErrRange}, {8, 12, api.OK}} {
		m := trial.TableOf(t, 2, keys, false)
		m.Cells.Grow(mostCells - m.Cells.Len() - c.room)
		run := New(1, Call{Kind: resizeKind, Size: c.size})
		for done := false; !done; {
			if r, over := run.Result(); r != (Result{}) || over || !run.Ready(m) {
				t.Fatalf("to %d, of room for %d, ahead of a step: Result = %v, %v", c.size, c.room, r, over)
			}
			done = run.Step(m)
		}
		if r, over := run.Result(); r != (Result{Err: c.want}) || !over || run.Mine() != 0 {
			t.Fatalf("to %d, of room for %d: Result = %v, %v", c.size, c.room, r, over)
		}
		for _, key := range slices.Concat(keys...) {
			answers(t, m, Call{Kind: getKind, Key: key}, Result{Had: true, Val: trial.OwnVal(key)})
		}
	}
}

// P16.1: Mine, written out: of a Put the node that it took, till that is put in, and the elder one, till that waits; of a Delete the node that is out of the chain, till that waits; ahead of that, and behind it, 0; of others 0 all the while.
func TestMine(t *testing.T) {
	m, _ := mem.New(3, 1)
	for _, c := range []struct {
		Call
		want []arena.Handle
	}{
		{Call{Kind: putKind, Key: "a"}, []arena.Handle{0, 0, 0, 0, 0, 1, 0, 0}},
		{Call{Kind: putKind, Key: "a"}, []arena.Handle{0, 0, 0, 0, 0, 0, 2, 1, 0, 0}},
		{Call{Kind: getKind, Key: "a"}, []arena.Handle{0, 0, 0, 0, 0, 0, 0}},
		{Call{Kind: resizeKind, Size: 1}, make([]arena.Handle, 11)},
		{Call{Kind: resizeKind, Size: 3}, []arena.Handle{0, 0}},
		{Call{Kind: 4, Key: "a"}, []arena.Handle{0, 0}},
		{Call{Kind: deleteKind, Key: "b"}, []arena.Handle{0, 0, 0, 0, 0, 0, 0}},
		{Call{Kind: deleteKind, Key: "a"}, []arena.Handle{0, 0, 0, 0, 0, 0, 2, 0, 0}},
		{Call{Kind: deleteKind, Key: "a"}, []arena.Handle{0, 0, 0, 0, 0, 0}},
		{Call{Kind: putKind, Key: "b"}, []arena.Handle{0, 0, 0, 0, 0, 3, 0, 0}},
		{Call{Kind: putKind, Key: "b"}, []arena.Handle{0, 0, 0, 0, 0, 0, 0, 0}},
	} {
		run := New(0, c.Call)
		is := []arena.Handle{run.Mine()}
		for done := false; !done; {
			done = run.Step(m)
			is = append(is, run.Mine())
		}
		if !slices.Equal(is, c.want) {
			t.Fatalf("%#v: Mine = %v, not %v", c.Call, is, c.want)
		}
	}
}

// R1: steps behind the last one don't panic, and change nothing, though another call of that worker is on its way; what was answered stays.
func TestStepBehindEnd(t *testing.T) {
	keys := trial.KeysByTurns(2, 3)
	l := plainmap.Of(keys)
	for _, c := range plainmap.AllRefused() {
		l = append(l, c.Call)
	}
	for _, c := range l {
		m := trial.TableOf(t, 2, keys, false)
		run := New(0, c)
		mem.Finish(m, run, most)
		want, _ := run.Result()
		other := New(0, l[0])
		mem.Finish(m, other, 3)
		before := trial.Look(m)
		for range 3 {
			run.Ready(m)
			run.Step(m)
			if r, done := run.Result(); r != want || !done || run.Mine() != 0 {
				t.Fatalf("%#v: behind the end Result = %v, %v", c, r, done)
			}
		}
		before.Check(t, m, "behind the end")
	}
}

// R3, R5: calls on their way know nothing of each other, though what they are of is the same: the steps of two, of two memories, are as they were if there was one alone.
func TestTwoMemories(t *testing.T) {
	one, two := trial.KeysByTurns(2, 3), trial.KeysByTurns(1, 4)
	for _, c := range plainmap.Of(one) {
		x, y := tablePair(t, 2, 0, one, false, c), tablePair(t, 2, 0, two, true, c)
		for !x.over || !y.over {
			x.goOn(1)
			y.goOn(2)
		}
		x.tells()
	}
}
