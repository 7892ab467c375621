package grow

import (
	"fmt"
	"slices"
	"testing"

	"quietus/api"
	"quietus/beside"
	"quietus/del"
	"quietus/get"
	"quietus/mem"
	"quietus/retire"
	"quietus/trial"
)

const (
	// comeIn is how many steps of a get it takes till its worker is in.
	comeIn = 2
	// begun is how many of them are ahead of the first node.
	begun = 4
)

// allAsked are the keys of rows, and one more of each bucket of twice as many, that isn't there.
func allAsked(rows ...string) []beside.Asked {
	return beside.AllAsked(keysIn(rows...), 2*len(rows))
}

// P13.3: gets that go on between any two of its steps, ahead of the first one and behind the last one find each key that is there, and no other one, in no more steps than five and one for each node.
func TestGetBetween(t *testing.T) {
	eachRow(5, func(row string) {
		rows := []string{row, "10"}
		m, _ := newMem(t, 2, 0, rows...)
		all := allAsked(rows...)
		x := newPair(t, 0)
		for done := false; !done; done = x.Step(m) {
			for _, a := range all {
				beside.Got(t, m, 1, a, max(len(row), 2), fmt.Sprintf("of %q, at %d", row, x.p.at))
			}
		}
		for _, a := range all {
			beside.Got(t, m, 1, a, max(len(row), 2), fmt.Sprintf("behind %q", row))
		}
	})
}

// P13.1, P13.3: a get that stays in, since ahead of whichever step, at whichever of its own: in the wait that comes next behind that grow isn't ready at that worker's counter, till it goes out, and is done then, if no other one comes in; the get finds what there is.
func TestGetStays(t *testing.T) {
	for _, row := range []string{"", "1", "01", "0110", "1101"} {
		for _, a := range allAsked(row) {
			for ahead := range stepsOf(2, row) - (3 + 2) + 1 {
				for steps, over := comeIn, false; !over; steps++ {
					m, _ := newMem(t, 2, 0, row)
					x := newPair(t, 0)
					for range ahead {
						x.Step(m)
					}
					g := get.New(1, a.Key)
					if _, over = mem.Finish(m, g, steps); over {
						continue
					}
					x.GoesTo(m, 1)
					mem.Finish(m, g, most)
					beside.Found(t, m, g, a, fmt.Sprintf("of %q, behind %d steps, at its own %d", row, ahead, steps))
					x.Finish(m)
				}
			}
		}
	}
}

// looks says whether it is at a counter.
func (x *pair) looks() bool {
	_, looks := x.p.Looks()
	return looks
}

// P13.1, P13.3: a get that comes in while it waits, behind the step that made the period, isn't waited for by that wait, but by the next one; where there is none, it is done though that one is in.
func TestGetComesLate(t *testing.T) {
	for _, row := range []string{"", "01", "010"} {
		for wait := range 1 + passesOf(row) {
			m, _ := newMem(t, 2, 0, row)
			a := allAsked(row)[0]
			x := newPair(t, 0)
			for !x.looks() || x.p.passes < wait {
				x.Step(m)
			}
			g := get.New(1, a.Key)
			trial.Ahead(t, m, g, begun, "the get's steps ahead")
			if wait < passesOf(row) {
				x.GoesTo(m, 1)
				if x.p.passes != wait+1 {
					t.Fatalf("of %q, in the wait %d, it waits behind %d passes", row, wait, x.p.passes)
				}
				mem.Finish(m, g, most)
			}
			x.Finish(m)
			mem.Finish(m, g, most)
			beside.Found(t, m, g, a, "one who came late")
		}
	}
}

// P13.3: each of many gets that are in, one of each worker, is waited for, in the order of the workers, whoever of them goes out first.
func TestManyStay(t *testing.T) {
	const row = "0110"
	all := allAsked(row)
	for first := 1; first < mostWorkers; first++ {
		m, _ := newMem(t, mostWorkers, 0, row)
		x := newPair(t, 0)
		var gets []*get.Get
		for worker := 1; worker < mostWorkers; worker++ {
			gets = append(gets, get.New(worker, all[worker%len(all)].Key))
			trial.Ahead(t, m, gets[worker-1], begun-worker%3, "the gets' steps ahead")
		}
		goOut := func(worker int) {
			mem.Finish(m, gets[worker-1], most)
			beside.Found(t, m, gets[worker-1], all[worker%len(all)], "one of many")
		}
		goOut(first)
		for worker := 1; worker < mostWorkers; worker++ {
			if worker != first {
				x.GoesTo(m, worker)
				goOut(worker)
			}
		}
		x.Finish(m)
	}
}

// takeOut has the worker 0, who has the locks that one who grows has to hold, take a key out, and have them again.
func takeOut(t *testing.T, m *mem.Mem, key string) {
	t.Helper()
	trial.FreeAll(m, 0)
	waiting := m.Waiting()
	if mem.Finish(m, del.New(0, key), most); m.Waiting() != waiting+1 {
		t.Fatalf("behind a del of %q %d wait", key, m.Waiting())
	}
	trial.HoldAll(m, 0)
}

// P13.3: a get that is on its way while a node is taken out, and stands at that one, too, goes on by that node's own Next, whichever bucket that one is of, and finds what there is; neither the chains are parted, nor that node is freed, till it goes out.
func TestGetAtTakenOut(t *testing.T) {
	for _, row := range []string{"010", "0011", "1001", "01101"} {
		for place, key := range keysIn(row)[0] {
			for _, a := range allAsked(row) {
				for steps, over := begun, false; !over && a.Key != key; steps++ {
					m, _ := newMem(t, 2, 0, row)
					g := get.New(1, a.Key)
					if _, over = mem.Finish(m, g, steps); over {
						continue
					}
					takeOut(t, m, key)
					x, free := newPair(t, 0), retire.New(2)
					x.GoesTo(m, 1)
					mem.Finish(m, free, 1)
					mem.Finish(m, g, most)
					beside.Found(t, m, g, a, fmt.Sprintf("of %q, at %d, %d taken out", row, steps, place))
					x.Finish(m)
					if _, done := mem.Finish(m, free, most); !done || m.Waiting() != 0 {
						t.Fatalf("behind a drain %d wait", m.Waiting())
					}
					trial.CheckTable(t, m, trial.Spread([][]string{slices.DeleteFunc(keysIn(row)[0], func(other string) bool { return other == key })}, 2))
				}
			}
		}
	}
}

// P13.2: grown again and again, from one bucket up to the most that may be, each key of whatever kind is found all the while, and one that isn't there isn't.
func TestAgainAndAgain(t *testing.T) {
	m, _ := mem.New(200, 2)
	keys := [][]string{beside.ManyKeys()}
	trial.LayTable(t, m, keys)
	for n := 2; n <= mostBuckets; n *= 2 {
		g := New(1)
		if _, done := mem.Finish(m, g, most); !done || g.Err() != api.OK {
			t.Fatalf("to %d: %v, Err = %v", n, done, g.Err())
		}
		keys = trial.Spread(keys, n)
		beside.AllGot(t, m, keys, "grown")
	}
}
