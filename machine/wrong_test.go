package machine

import (
	"slices"
	"testing"

	"quietus/api"
	"quietus/calls"
	"quietus/mem"
	"quietus/plainmap"
	"quietus/trial"
)

// wrongLists are calls that are answered with an error, whatever there is, ten of each worker, of as many workers as may be.
func wrongLists() [][]calls.Call {
	var l [][]calls.Call
	for own := range slices.Chunk(plainmap.AllWrong(), 10) {
		var list []calls.Call
		for _, c := range own {
			list = append(list, c.Call)
		}
		l = append(l, list)
	}
	return l[:min(len(l), mostWorkers)]
}

// P18.1, R1: calls that may not be, and resizes to sizes that can't be, are done in one step each, by whatever picks, each with its error; nothing of the memory is changed by them.
func TestWrongCalls(t *testing.T) {
	for i, c := range plainmap.AllWrong() {
		w := newTwin(t, 2, [][]calls.Call{{c.Call}, {c.Call, c.Call}})
		before := trial.Look(w.m)
		w.run([]int{i, -i}, api.OK)
		before.Check(t, w.m, "calls that may not be")
		for _, e := range w.x.History() {
			if e.Call != c.Call || e.Begin != e.End || e.Result != (calls.Result{Err: c.Err}) {
				t.Errorf("of %#v the entry is %v", c.Call, e)
			}
		}
		if w.x.Steps() != 3 || len(w.x.History()) != 3 {
			t.Errorf("of %#v there are %d steps", c.Call, w.x.Steps())
		}
	}
}

// P18.1, P18.2, R1: the same of many of them, beside a worker of calls that may be: all are done, each of those that may not with its error.
func TestWrongCallsAmongOthers(t *testing.T) {
	errs := map[calls.Call]api.Errno{}
	for _, c := range plainmap.AllWrong() {
		errs[c.Call] = c.Err
	}
	for seed := range uint32(30) {
		next := trial.Picker(seed)
		l := wrongLists()[:1+next(mostWorkers-1)]
		for number := range l {
			l[number] = append(l[number], plainmap.PickLists(next, 1, 20)[0]...)
		}
		l = append(l, plainmap.PickLists(next, 1, mostCalls)[0])
		w := newWorld(t, plainmap.Plan{Room: 1 + next(9), Lists: l})
		for len(w.Ready()) > 0 {
			w.Step(pickAny(next))
		}
		w.End()
		for _, e := range w.x.History() {
			if err, ok := errs[e.Call]; ok && e.Result != (calls.Result{Err: err}) {
				t.Fatalf("of %#v the entry is %v", e.Call, e)
			}
		}
	}
}

// P18.1, P18.2, R1: resizes for whose tables there is no room any more answer ErrRange, and all others go on.
func TestNoRoomForTables(t *testing.T) {
	l := [][]calls.Call{slices.Repeat(thereAndBack(65536), 7), plainmap.List("+aga+b-aga")}
	x, _ := New(3, l)
	runs := 1
	for ; x.Run(nil) == api.ErrLong && runs < 10; runs++ {
	}
	fails := 0
	for _, e := range x.History() {
		if e.Call.Kind == calls.Resize && e.Result.Err == api.ErrRange {
			fails++
		} else if e.Result.Err != api.OK {
			t.Errorf("there is %v", e)
		}
	}
	if fails == 0 || runs == 10 || len(x.History()) != 14+5 || x.Mem().Arena.Fault() {
		t.Errorf("behind %d runs %d resizes fail, there are %v", runs, fails, x.History())
	}
	trial.AtRest(t, x.Mem())
}

// P18.1, R1: of a number in cell 1 of which there is no table all calls are done, however, by steps that come to what they come to in the twin, and it is over.
func TestWrongNumber(t *testing.T) {
	keys := trial.KeysByTurns(2, 3)
	for _, word := range trial.WrongNumbers(1) {
		for own := range slices.Chunk(plainmap.All(keys), mostCalls) {
			w := newTwin(t, 9, [][]calls.Call{own, own})
			w.each(func(m *mem.Mem) { m.Cells.Store(1, word) })
			w.run([]int{1, 0, -1}, api.OK)
		}
	}
}
