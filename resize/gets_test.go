package resize

import (
	"fmt"
	"slices"
	"testing"

	"quietus/beside"
	"quietus/del"
	"quietus/get"
	"quietus/mem"
	"quietus/put"
	"quietus/qsbr"
	"quietus/retire"
	"quietus/trial"
)

const (
	// comeIn is how many steps of a get it takes till its worker is in.
	comeIn = 2
	// begun is how many of them are ahead of the first node.
	begun = 4
)

// someSizes are from how many buckets to which size a resize goes, in tests of all its steps.
func someSizes() [][2]int {
	return [][2]int{{1, 1}, {1, 2}, {1, 4}, {2, 1}, {4, 1}, {4, 8}, {8, 2}}
}

// W1, W2, W3: gets that go on ahead of its first step, between any two of its steps, and behind the last one find each key that is there, and no other one, in no more steps than five and one for each node.
func TestGetBetween(t *testing.T) {
	for _, c := range someSizes() {
		for _, length := range []int{1, 3} {
			keys := trial.KeysByTurns(c[0], length)
			all, nodes := beside.AllAsked(keys, max(c[0], c[1])), len(slices.Concat(keys...))
			m, x := newPair(t, 2, 0, c[1], keys)
			what := fmt.Sprintf("from %d to %d", c[0], c[1])
			for done := false; !done; done = x.Step(m) {
				for _, a := range all {
					beside.Got(t, m, 1, a, nodes, what)
				}
			}
			for _, a := range all {
				beside.Got(t, m, 1, a, nodes, what)
			}
		}
	}
}

// goOn has a resize go on till it isn't ready, and says whether it is done.
func goOn(m *mem.Mem, x *pair) bool {
	for x.F.Ready(m) {
		if x.Step(m) {
			return true
		}
	}
	return false
}

// W1, W2, P15.1: a get that stays in, since ahead of whichever step, at whichever of its own: where the resize waits next it isn't ready at that worker's counter, till the get goes out, and is done then, as no other one comes in; the get finds what there is.
func TestGetStays(t *testing.T) {
	for _, c := range someSizes() {
		keys := trial.KeysByTurns(c[0], 2)
		for i, a := range beside.AllAsked(keys, max(c[0], c[1])) {
			for ahead := range stepsOf(t, 2, c[1], keys) {
				m, x := newPair(t, 2, 0, c[1], keys)
				for range ahead {
					x.Step(m)
				}
				g := get.New(1, a.Key)
				if _, over := mem.Finish(m, g, comeIn+(ahead+i)%4); over {
					continue
				}
				// Behind the last period that is made nobody is waited for any more.
				waits := !goOn(m, x)
				if worker, looks := x.p.Looks(); looks != waits || waits && worker != 1 {
					t.Fatalf("from %d to %d, behind %d steps, it waits: %v, at the counter of %d", c[0], c[1], ahead, waits, worker)
				}
				if waits {
					x.GoesTo(m, 1)
				}
				if turns := c[0] != c[1]; ahead <= locks && waits != turns {
					t.Fatalf("from %d to %d, behind %d steps, it waits: %v", c[0], c[1], ahead, waits)
				}
				mem.Finish(m, g, most)
				beside.Found(t, m, g, a, fmt.Sprintf("from %d to %d, behind %d steps", c[0], c[1], ahead))
				if waits {
					x.Finish(m)
				}
				trial.CheckTable(t, m, resized(keys, c[1]))
			}
		}
	}
}

// W2, P15.1: each of many gets that are in, one of each worker, is waited for, in the order of the workers, whoever of them goes out first; another one that comes in at once is waited for by the next wait, if there is one.
func TestManyStay(t *testing.T) {
	for _, c := range [][2]int{{1, 2}, {2, 1}, {8, 2}} {
		keys := trial.KeysByTurns(c[0], 3)
		all := beside.AllAsked(keys, max(c[0], c[1]))
		for first := 1; first < mostWorkers; first++ {
			m, x := newPair(t, mostWorkers, 0, c[1], keys)
			gets := make([]*get.Get, mostWorkers)
			comes := func(worker int) {
				gets[worker] = get.New(worker, all[worker%len(all)].Key)
				trial.Ahead(t, m, gets[worker], begun-worker%3, "the gets' steps ahead")
			}
			goes := func(worker int) {
				mem.Finish(m, gets[worker], most)
				beside.Found(t, m, gets[worker], all[worker%len(all)], "one of many")
			}
			for worker := 1; worker < mostWorkers; worker++ {
				comes(worker)
			}
			goes(first)
			for worker := 1; worker < mostWorkers; worker++ {
				if worker != first {
					x.GoesTo(m, worker)
					goes(worker)
				}
			}
			goesOn(t, m, x, comes, goes)
			trial.CheckTable(t, m, resized(keys, c[1]))
		}
	}
}

// goesOn has a resize come to its end, at each of whose waits a get of the worker 1 is in that came while it made the period.
func goesOn(t *testing.T, m *mem.Mem, x *pair, comes, goes func(worker int)) {
	t.Helper()
	for done := false; !done; {
		period, _ := m.Cells.Load(periodCell)
		in := len(trial.In(m)) > 0
		if !x.F.Ready(m) {
			x.GoesTo(m, 1)
			goes(1)
			continue
		}
		done = x.Step(m)
		if now, _ := m.Cells.Load(periodCell); now != period && !in && !done {
			comes(1)
		}
	}
	if len(trial.In(m)) > 0 {
		goes(1)
	}
}

// W2: a get that is on its way while a node is taken out, and stands at that one, too, finds what there is, whichever tables come to count; neither is the resize done, nor that node freed, till it goes out.
func TestGetAtTakenOut(t *testing.T) {
	for _, c := range [][2]int{{1, 4}, {2, 4}, {2, 1}, {4, 1}} {
		keys := [][]string{slices.Concat(trial.KeysByTurns(c[0], 2)...)}
		keys = trial.Spread(keys, c[0])
		for _, key := range slices.Concat(keys...) {
			for _, a := range beside.AllAsked(keys, 4) {
				for steps, over := begun, false; !over && a.Key != key; steps++ {
					m := trial.FreeTable(t, 2, keys)
					g := get.New(1, a.Key)
					if _, over = mem.Finish(m, g, steps); over {
						continue
					}
					mem.Finish(m, del.New(0, key), most)
					r, free := New(0, c[1]), retire.New(2)
					if _, done := mem.Finish(m, r, most); done || m.Locks.Holder(periodLock) != 0 {
						t.Fatalf("from %d to %d it is done: %v", c[0], c[1], done)
					}
					mem.Finish(m, free, 1)
					mem.Finish(m, g, most)
					beside.Found(t, m, g, a, fmt.Sprintf("from %d to %d, %q taken out", c[0], c[1], key))
					mem.Finish(m, r, most)
					if _, done := mem.Finish(m, free, most); !done || m.Waiting() != 0 {
						t.Fatalf("behind a drain %d wait", m.Waiting())
					}
					left := slices.DeleteFunc(slices.Concat(keys...), func(other string) bool { return other == key })
					trial.CheckTable(t, m, resized(trial.Spread([][]string{left}, c[0]), c[1]))
				}
			}
		}
	}
}

// holders are frames that put a key in, or take it out, of a table of keys, by the lock of its bucket.
func holders(worker int, key string) []mem.Frame {
	return []mem.Frame{put.New(worker, key, trial.OwnVal(key)), del.New(worker, key)}
}

// P15.1: while a put, or a del, of whichever key, holds a writer's lock, at whichever of its steps, the resize takes those ahead of that lock, and isn't ready for it till it is freed; it goes on then, and both are done.
func TestBehindWriter(t *testing.T) {
	keys := trial.Spread(someKeys(24), 8)
	for _, key := range slices.Concat(append(keys, []string{"new", "other", "another", "more"})...) {
		for i := range holders(1, key) {
			for steps, over := 1, false; !over; steps++ {
				m := trial.FreeTable(t, 2, keys)
				w := holders(1, key)[i]
				if _, over = mem.Finish(m, w, steps); over {
					continue
				}
				held := m.Locks.Held(1)
				r := New(0, 2)
				if len(held) == 0 {
					trial.Ahead(t, m, r, locks, "its locks")
					trial.Stuck(t, m, w, "all locks are held")
					mem.Finish(m, r, most)
				} else {
					trial.Ahead(t, m, r, held[0], "the locks ahead of the one that is held")
					trial.Stuck(t, m, r, "a writer's lock is held")
				}
				if _, done := mem.Finish(m, w, most); !done {
					t.Fatalf("%q, at %d, isn't done", key, steps)
				}
				if _, done := mem.Finish(m, r, most); len(held) > 0 && !done || m.Now().N != 2 {
					t.Fatalf("%q, at %d: the table is %v", key, steps, m.Now())
				}
				nobodyHolds(t, m, "both are done")
				_, had := trial.ValOf(m, key)
				if had != (i == 0) {
					t.Fatalf("%q is there: %v", key, had)
				}
			}
		}
	}
}

// P15.1: while a resize is at whichever of its steps, another one, of another worker, isn't ready for its first one, and takes its turn when the first one is done, from the table that there is then; each is done, and the table has the size of the last one.
func TestBehindResize(t *testing.T) {
	for _, c := range [][3]int{{1, 4, 1}, {2, 2, 8}, {4, 1, 4}, {8, 4, 2}} {
		keys := trial.KeysByTurns(c[0], 2)
		for ahead := 1; ahead < stepsOf(t, 2, c[1], keys); ahead++ {
			m, one := newPair(t, 2, 0, c[1], keys)
			for range ahead {
				one.Step(m)
			}
			two := New(1, c[2])
			trial.Stuck(t, m, two, "another one is on its way")
			trial.Finish(t, m, New(1, 0), 1, "a wrong size beside it")
			one.Finish(m)
			between := resized(keys, c[1])
			trial.CheckTable(t, m, between)
			trial.Finish(t, m, two, stepsOf(t, 2, c[2], between), "the second one")
			trial.CheckTable(t, m, resized(between, c[2]))
			nobodyHolds(t, m, "both are done")
		}
	}
}

// P15.1: while a drain, or another one's wait, holds the period's lock, waiting for one who is in, the resize isn't ready for its own wait, and goes on as soon as that one is done.
func TestBehindWait(t *testing.T) {
	for _, c := range [][2]int{{1, 2}, {4, 1}} {
		for _, other := range []func() mem.Frame{
			func() mem.Frame { return retire.New(3) },
			func() mem.Frame { return qsbr.Sync(2) },
		} {
			keys := trial.KeysByTurns(c[0], 2)
			m, x := newPair(t, 3, 0, c[1], keys)
			mem.Finish(m, qsbr.Enter(1), most)
			wait := other()
			if _, done := mem.Finish(m, wait, most); done || m.Locks.Holder(periodLock) == -1 {
				t.Fatal("the other one doesn't wait")
			}
			r := x.F
			n, done := mem.Finish(m, r, most)
			if done || n < locks+3 || m.Now().N == c[0] {
				t.Fatalf("behind %d steps it is done: %v, the table is %v", n, done, m.Now())
			}
			trial.Stuck(t, m, r, "the period's lock is held")
			mem.Finish(m, qsbr.Leave(1), most)
			trial.Stuck(t, m, r, "the period's lock is held yet")
			if _, done := mem.Finish(m, wait, most); !done {
				t.Fatal("the other one isn't done")
			}
			if rest, done := mem.Finish(m, r, most); !done || n+rest != stepsOf(t, 3, c[1], keys) {
				t.Fatalf("it takes %d steps, and is done: %v", n+rest, done)
			}
			trial.CheckTable(t, m, resized(keys, c[1]))
		}
	}
}
