package resize

import (
	"fmt"
	"slices"
	"testing"

	"quietus/api"
	"quietus/arena"
	"quietus/beside"
	"quietus/mem"
	"quietus/trial"
)

// P15.1: of a number in cell 1 of which there is no table, what counts is the zero table of layer 5, of no bucket, from which each size is twice as far: a grow fails, of size, the locks are freed, and nothing is changed, and the number stays; the error is told from the step on by which the grow failed.
func TestWrongNumber(t *testing.T) {
	for _, number := range trial.WrongNumbers(2) {
		for _, size := range []int{1, 2, 8, mostBuckets} {
			m := trial.FreeTable(t, 2, trial.KeysByTurns(2, 2))
			m.Cells.Store(currentCell, number)
			before := trial.Look(m)
			r := New(0, size)
			// Two steps of the grow that fails: one loads, and one makes no table.
			for n := range 2*locks + 2 {
				want := api.OK
				if n >= locks+2 {
					want = api.ErrSize
				}
				if e := r.Err(); e != want {
					t.Fatalf("of the number %d, to %d, behind %d steps Err = %v", number, size, n, e)
				}
				trial.Step(t, m, r, n == 2*locks+1, "a wrong number")
			}
			if e := r.Err(); e != api.ErrSize {
				t.Fatalf("of the number %d, to %d, Err = %v", number, size, e)
			}
			before.Check(t, m, "a wrong number")
		}
	}
}

// P15.1: a number of which there is no table matters as any other that comes to count: at a turn's first step, and as its end looks at the N. The turns that were done stay.
func TestWrongNumberMeanwhile(t *testing.T) {
	all := stepsOf(t, 1, 4, trial.KeysByTurns(1, 2))
	for ahead := range all {
		for _, number := range []uint64{9, 1<<64 - 1} {
			m := trial.FreeTable(t, 1, trial.KeysByTurns(1, 2))
			r := New(0, 4)
			trial.Ahead(t, m, r, ahead, "steps ahead")
			before, _ := m.Cells.Load(currentCell)
			m.Cells.Store(currentCell, number)
			n, done := mem.Finish(m, r, most)
			after, _ := m.Cells.Load(currentCell)
			if e := r.Err(); !done || n > all || e != api.OK && e != api.ErrSize || (e == api.ErrSize) != (m.Now().N == 0 && ahead < all-locks) {
				t.Fatalf("behind %d steps: %d more, done: %v, Err = %v; the number was %d, and is %d", ahead, n, done, e, before, after)
			}
			nobodyHolds(t, m, "a wrong number")
		}
	}
}

// R1: of a worker that there isn't, below 0 or beyond the last one, all calls end, and none panics. None below 0 can have a lock: such a resize never comes to its first step, whether that is taken or not; one beyond the last one is done as any other.
func TestNoWorker(t *testing.T) {
	for _, worker := range append(trial.NotWorkers(), 3, 4, 5) {
		for _, size := range []int{4, 1, 8} {
			keys := trial.KeysByTurns(4, 2)
			m := trial.FreeTable(t, 3, keys)
			r := New(worker, size)
			if worker < 0 {
				trial.Stuck(t, m, r, "no lock is to be had")
			} else {
				trial.Finish(t, m, r, stepsOf(t, 3, size, keys), "beyond the last")
				trial.CheckTable(t, m, resized(keys, size))
			}
			if e := r.Err(); e != api.OK {
				t.Fatalf("of the worker %d: Err = %v", worker, e)
			}
			nobodyHolds(t, m, "no worker")
			trial.Fails(t, m, New(worker, 3*size), api.ErrSize, "a wrong size")
		}
	}
}

// ends has a resize of a memory that isn't as it has to be come to its end, behind which no lock is held.
func ends(t *testing.T, m *mem.Mem, size int, what string) {
	t.Helper()
	r := New(0, size)
	trial.Alone(t, m, r, what)
	if e := r.Err(); m.Now().N != size || e != api.OK {
		t.Fatalf("%s: to %d: the table is %v, Err = %v", what, size, m.Now(), e)
	}
	nobodyHolds(t, m, what)
}

// stales are handles that are stale in the tests' memories, and words that never were a handle.
func stales() []arena.Handle {
	return []arena.Handle{1, 3 + far, far, 2 * far, 1 << 32, 1<<63 + 2, 1<<64 - 1}
}

// eachTable does something for each of some tables, and each size to which these are resized.
func eachTable(do func(keys [][]string, size int)) {
	for _, n := range []int{1, 2, 4} {
		for _, size := range []int{1, 2, 4, 8} {
			for length := range 4 {
				do(trial.KeysByTurns(n, length), size)
			}
		}
	}
}

// has says whether keys of other chains are all there, each with its own value.
func has(t *testing.T, m *mem.Mem, keys []string, what string) {
	t.Helper()
	for _, key := range keys {
		if val, had := trial.ValOf(m, key); !had || val != trial.OwnVal(key) {
			t.Fatalf("%s: the key %q has %q, %v", what, key, val, had)
		}
	}
}

// P15.1, R1: of a stale handle, or a word that never was one, in a bucket's cell all ends, no step does more than one thing, and the keys of all other buckets are there.
func TestStaleInCell(t *testing.T) {
	eachTable(func(keys [][]string, size int) {
		for bucket := range keys {
			for _, stale := range stales() {
				m := trial.FreeTable(t, 1, keys)
				trial.Put(t, m, m.Now().Base+bucket, stale)
				what := fmt.Sprintf("of %v, %d in the cell of %d", keys, stale, bucket)
				if m.Arena.Live(stale) {
					t.Fatalf("%s: it is live", what)
				}
				ends(t, m, size, what)
				has(t, m, slices.Concat(slices.Delete(slices.Clone(keys), bucket, bucket+1)...), what)
				if up := m.Arena.Fault(); up && size == len(keys) {
					t.Fatalf("%s: the flag is up, though nothing is read", what)
				}
			}
		}
	})
}

// P15.1, R1: of a stale handle in a node's Next all ends, no step does more than one thing, and the keys ahead of it, and those of all other buckets, are there.
func TestStaleInChain(t *testing.T) {
	eachTable(func(keys [][]string, size int) {
		for bucket, own := range keys {
			for cut := 1; cut <= len(own); cut++ {
				for _, stale := range stales() {
					m := trial.FreeTable(t, 1, keys)
					trial.Link(t, m, m.Chain(bucket)[cut-1], stale)
					what := fmt.Sprintf("of %v to %d, %d behind %d of %d", keys, size, stale, cut, bucket)
					ends(t, m, size, what)
					left := slices.Clone(keys)
					left[bucket] = own[:cut]
					has(t, m, slices.Concat(left...), what)
				}
			}
		}
	})
}

// P15.1, P15.2, R1: of a chain whose end comes back to it, to whichever node, all ends, no step does more than one thing, all keys are there, and the flag stays down; so gets find, between any two of its steps.
func TestRound(t *testing.T) {
	eachTable(func(keys [][]string, size int) {
		for bucket, own := range keys {
			for back := range own {
				round := func() *mem.Mem {
					m := trial.FreeTable(t, 2, keys)
					l := m.Chain(bucket)
					trial.Link(t, m, l[len(l)-1], l[back])
					return m
				}
				what := fmt.Sprintf("of %v to %d, the chain %d comes back to %d", keys, size, bucket, back)
				m := round()
				ends(t, m, size, what)
				all := slices.Concat(keys...)
				has(t, m, all, what)
				if m.Arena.Fault() || len(m.Reach()) != len(all) {
					t.Fatalf("%s: of %d keys these are reached: %v", what, len(all), m.Reach())
				}
				getsIn(t, round(), size, all, what)
			}
		}
	})
}

// getsIn has gets find keys between any two steps of a resize.
func getsIn(t *testing.T, m *mem.Mem, size int, keys []string, what string) {
	t.Helper()
	r := New(0, size)
	for n, done := 0, false; !done; n++ {
		for _, key := range keys {
			beside.Got(t, m, 1, beside.Asked{Key: key, There: true}, len(keys), what)
		}
		if done = r.Step(m); n > 1000 {
			t.Fatalf("%s: it has no end", what)
		}
	}
}

// P15.1, R1: a node that is freed between any two of its steps, by somebody who mustn't: no step panics, and all end.
func TestFreedMeanwhile(t *testing.T) {
	keys := trial.KeysByTurns(2, 3)
	for _, size := range []int{8, 1} {
		for ahead := range stepsOf(t, 1, size, keys) {
			for place := range len(slices.Concat(keys...)) {
				m := trial.FreeTable(t, 1, keys)
				r := New(0, size)
				trial.Ahead(t, m, r, ahead, "steps ahead")
				trial.Free(t, m, trial.Look(m).Live()[1+place])
				if n, done := mem.Finish(m, r, 1000); !done || m.Now().N != size || r.Err() != api.OK {
					t.Fatalf("behind %d steps, of the node %d, it takes %d steps, the table is %v", ahead, place, n, m.Now())
				}
				nobodyHolds(t, m, "a node is freed")
			}
		}
	}
}

// P15.1, R1: a lock that somebody who mustn't frees meanwhile, and has then: it isn't taken from that one, and all others are freed.
func TestLockTakenAway(t *testing.T) {
	for _, size := range []int{2, 4, 1} {
		keys := trial.KeysByTurns(2, 2)
		all := stepsOf(t, 1, size, keys)
		for ahead := range all {
			for lock := range order() {
				m := trial.FreeTable(t, 1, keys)
				r := New(0, size)
				trial.Ahead(t, m, r, ahead, "steps ahead")
				if m.Locks.Free(1+lock, 0) != api.OK {
					continue
				}
				m.Locks.Try(1+lock, somebody)
				if n, done := mem.Finish(m, r, most); !done || n != all-ahead {
					t.Fatalf("behind %d steps, it takes %d more, done: %v", ahead, n, done)
				}
				if l := m.Locks.Held(0); len(l) != 0 || m.Locks.Holder(1+lock) != somebody {
					t.Fatalf("behind %d steps, it has %v, the lock %d has %d", ahead, l, 1+lock, m.Locks.Holder(1+lock))
				}
			}
		}
	}
}

// P15.1, R1: long rows of steps of resizes beside each other, ready or not, of nodes and chains that others change in whatever way, of locks that they take, of tables that come to count, and numbers that no table has: none panics, each does one thing at most, and what it tells of an error stays; left alone, each is done in not many steps.
func TestRow(t *testing.T) {
	done, fails := 0, 0
	for workers := 1; workers <= mostWorkers; workers++ {
		for seed := range uint32(25) {
			r := trial.NewFrames(t, workers, seed)
			r.Frees = true
			r.Make = func(worker int) trial.Failing {
				size := []int{1, 2, 4, 8, wrongSize}[r.Next(5)]
				return New(worker, size)
			}
			r.Go(600)
			r.LeaveAlone()
			done, fails = done+r.Done, fails+r.Fails
			nobodyHolds(t, r.M, "a row of steps")
		}
	}
	if done-fails < 300 || fails < 100 {
		t.Errorf("of %d resizes that are done %d failed", done, fails)
	}
}
