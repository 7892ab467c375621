package shrink

import (
	"fmt"
	"slices"
	"testing"

	"quietus/api"
	"quietus/beside"
	"quietus/del"
	"quietus/get"
	"quietus/grow"
	"quietus/mem"
	"quietus/retire"
	"quietus/trial"
)

const (
	// comeIn is how many steps of a get it takes till its worker is in.
	comeIn = 2
	// begun is how many of them are ahead of the first node.
	begun = 4
)

// allAsked are the keys of chains of such lengths, and one more of each bucket, that isn't there.
func allAsked(lengths ...int) []beside.Asked {
	return beside.AllAsked(keysIn(lengths...), len(lengths))
}

// P14.3: gets that go on ahead of its first step, between any two of its steps, and behind the last one find each key that is there, and no other one, in no more steps than five and one for each node of both chains.
func TestGetBetween(t *testing.T) {
	eachPair(4, func(first, second int) {
		lengths := []int{first, 1, second, 2}
		m, _ := newMem(t, 2, 0, lengths...)
		all := allAsked(lengths...)
		x := newPair(t, 0)
		for step, done := 0, false; !done; step, done = step+1, x.Step(m) {
			for _, a := range all {
				beside.Got(t, m, 1, a, max(first+second, 3), fmt.Sprintf("of %v, behind %d steps", lengths, step))
			}
		}
		for _, a := range all {
			beside.Got(t, m, 1, a, max(first+second, 3), fmt.Sprintf("of %v, shrunk", lengths))
		}
	})
}

// P14.1, P14.3: a get that stays in, since ahead of whichever step up to the one that makes the period, at whichever of its own: shrink isn't ready at that worker's counter, till it goes out, and is done then; the get finds what there is.
func TestGetStays(t *testing.T) {
	for _, lengths := range [][]int{{0, 0}, {2, 0}, {0, 1}, {1, 1}, {2, 1}, {1, 3}, {1, 0, 1, 2}} {
		for _, a := range allAsked(lengths...) {
			for ahead := range stepsOf(2, lengths...) - (2 + 2) + 1 {
				for steps, over := comeIn, false; !over; steps++ {
					m, _ := newMem(t, 2, 0, lengths...)
					x := newPair(t, 0)
					for range ahead {
						x.Step(m)
					}
					g := get.New(1, a.Key)
					if _, over = mem.Finish(m, g, steps); over {
						continue
					}
					x.GoesTo(m, 1)
					mem.Finish(m, g, most)
					beside.Found(t, m, g, a, fmt.Sprintf("of %v, behind %d steps, at its own %d", lengths, ahead, steps))
					x.Finish(m)
				}
			}
		}
	}
}

// P14.1, P14.3: a get that comes in behind the step that made the period isn't waited for: shrink is done though it is in, and the get, whenever it goes on, finds what there is.
func TestGetComesLate(t *testing.T) {
	for _, lengths := range [][]int{{0, 0}, {2, 0}, {0, 2}, {2, 2}, {1, 0, 1, 2}} {
		for _, a := range allAsked(lengths...) {
			// Behind that step there are two counters, and the lock.
			for ahead := stepsOf(2, lengths...) - 3; ahead <= stepsOf(2, lengths...); ahead++ {
				m, _ := newMem(t, 2, 0, lengths...)
				x := newPair(t, 0)
				for range ahead {
					x.Step(m)
				}
				g := get.New(1, a.Key)
				trial.Ahead(t, m, g, begun, "the get's steps ahead")
				if x.p.at != atEnd {
					x.Finish(m)
				}
				mem.Finish(m, g, most)
				beside.Found(t, m, g, a, "one who came late")
			}
		}
	}
}

// P14.3: each of many gets that are in, one of each worker, is waited for, in the order of the workers, whoever of them goes out first.
func TestManyStay(t *testing.T) {
	lengths := []int{2, 2}
	all := allAsked(lengths...)
	for first := 1; first < mostWorkers; first++ {
		m, keys := newMem(t, mostWorkers, 0, lengths...)
		x := newPair(t, 0)
		var gets []*get.Get
		for worker := 1; worker < mostWorkers; worker++ {
			gets = append(gets, get.New(worker, all[worker%len(all)].Key))
			trial.Ahead(t, m, gets[worker-1], begun-worker%3, "the gets' steps ahead")
		}
		goOut := func(worker int) {
			mem.Finish(m, gets[worker-1], most)
			beside.Found(t, m, gets[worker-1], all[worker%len(all)], "one of many")
		}
		goOut(first)
		for worker := 1; worker < mostWorkers; worker++ {
			if worker != first {
				x.GoesTo(m, worker)
				goOut(worker)
			}
		}
		x.Finish(m)
		trial.CheckTable(t, m, half(keys))
	}
}

// takeOut has the worker 0, who has the locks that one who shrinks has to hold, take a key out, and have them again.
func takeOut(t *testing.T, m *mem.Mem, key string) {
	t.Helper()
	trial.FreeAll(m, 0)
	waiting := m.Waiting()
	if mem.Finish(m, del.New(0, key), most); m.Waiting() != waiting+1 {
		t.Fatalf("behind a del of %q %d wait", key, m.Waiting())
	}
	trial.HoldAll(m, 0)
}

// without are keys without one of them.
func without(keys [][]string, key string) [][]string {
	var l [][]string
	for _, own := range keys {
		l = append(l, slices.DeleteFunc(slices.Clone(own), func(other string) bool { return other == key }))
	}
	return l
}

// P14.3: a get that is on its way while a node is taken out, and stands at that one, too, finds what there is, though the chain that it was the last one of comes to go on; neither is shrink done, nor that node freed, till it goes out.
func TestGetAtTakenOut(t *testing.T) {
	for _, lengths := range [][]int{{1, 1}, {3, 1}, {2, 2}, {0, 2}} {
		for _, key := range slices.Concat(keysIn(lengths...)...) {
			for _, a := range allAsked(lengths...) {
				for steps, over := begun, false; !over && a.Key != key; steps++ {
					m, keys := newMem(t, 2, 0, lengths...)
					g := get.New(1, a.Key)
					if _, over = mem.Finish(m, g, steps); over {
						continue
					}
					takeOut(t, m, key)
					x, free := newPair(t, 0), retire.New(2)
					x.GoesTo(m, 1)
					mem.Finish(m, free, 1)
					mem.Finish(m, g, most)
					beside.Found(t, m, g, a, fmt.Sprintf("of %v, at %d, %q taken out", lengths, steps, key))
					x.Finish(m)
					if _, done := mem.Finish(m, free, most); !done || m.Waiting() != 0 {
						t.Fatalf("behind a drain %d wait", m.Waiting())
					}
					trial.CheckTable(t, m, half(without(keys, key)))
				}
			}
		}
	}
}

// P14.3: a get that is in as shrink gets done, by the newer table, finds what there is, though a node is taken out as soon as that is done; that one isn't freed till the get goes out.
func TestTakenOutBehind(t *testing.T) {
	lengths := []int{2, 2}
	for _, key := range slices.Concat(keysIn(lengths...)...) {
		for _, a := range allAsked(lengths...) {
			m, keys := newMem(t, 2, 0, lengths...)
			x := newPair(t, 0)
			for range stepsOf(2, lengths...) - 1 {
				x.Step(m)
			}
			g := get.New(1, a.Key)
			trial.Ahead(t, m, g, begun, "the get's steps ahead")
			x.Finish(m)
			takeOut(t, m, key)
			free := retire.New(2)
			if _, done := mem.Finish(m, free, most); done {
				t.Fatal("it is freed, though a get is in")
			}
			mem.Finish(m, g, most)
			if val, had := g.Val(); m.Arena.Fault() || a.Key != key && (had != a.There || had && val != trial.OwnVal(a.Key)) {
				t.Fatalf("%q taken out, a get of %q found %q, %v", key, a.Key, val, had)
			}
			mem.Finish(m, free, most)
			trial.CheckTable(t, m, half(without(keys, key)))
		}
	}
}

// P14.2: shrunk again and again, from the most buckets that may be down to one, each key of whatever kind is found all the while, and one that isn't there isn't; behind that it is size.
func TestAgainAndAgain(t *testing.T) {
	m, _ := mem.New(200, 2)
	keys := trial.Spread([][]string{beside.ManyKeys()}, mostBuckets)
	trial.LayTable(t, m, keys)
	for len(keys) > 1 {
		s := New(1)
		if _, done := mem.Finish(m, s, most); !done || s.Err() != api.OK {
			t.Fatalf("of %d: %v, Err = %v", len(keys), done, s.Err())
		}
		keys = half(keys)
		beside.AllGot(t, m, keys, "shrunk, or grown")
	}
	trial.Fails(t, m, New(1), api.ErrSize, "one bucket")
}

// P14.2: shrunk behind grown, and grown behind shrunk, by whichever turns, each key is found, and one that isn't there isn't.
func TestBehindGrow(t *testing.T) {
	for seed := range uint32(20) {
		next := trial.Picker(seed)
		m, _ := mem.New(200, 2)
		keys := trial.Spread([][]string{beside.ManyKeys()}, 1<<next(8))
		trial.LayTable(t, m, keys)
		for range 12 {
			var f trial.Failing = grow.New(1)
			n := 2 * len(keys)
			if len(keys) > 1 && next(2) == 0 {
				f, n = New(1), len(keys)/2
			}
			if _, done := mem.Finish(m, f, most); !done || f.Err() != api.OK {
				t.Fatalf("of %d to %d: %v, Err = %v", len(keys), n, done, f.Err())
			}
			keys = trial.Spread(keys, n)
			beside.AllGot(t, m, keys, "shrunk, or grown")
		}
	}
}
