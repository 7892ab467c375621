package shrink

import (
	"fmt"
	"slices"
	"testing"

	"quietus/api"
	"quietus/arena"
	"quietus/beside"
	"quietus/mem"
	"quietus/trial"
)

// P14.1: of a number in cell 1 of which there is no table, what counts is the zero table of layer 5, of no bucket: there is none of half the N, which is size; nothing is changed, and the number stays.
func TestWrongNumber(t *testing.T) {
	for _, number := range trial.WrongNumbers(2) {
		m, _ := newMem(t, 2, 0, 2, 1)
		m.Cells.Store(currentCell, number)
		trial.Fails(t, m, New(0), api.ErrSize, "a wrong number")
	}
}

// R1: of a worker that there isn't, below 0 or beyond the last one, all calls end, and none panics. None below 0 can have the period's lock: such a shrink comes to its wait, and no further, and each key is found by the table that counts then; one beyond the last one is done as any other.
func TestNoWorker(t *testing.T) {
	lengths := []int{2, 1, 1, 0}
	for _, worker := range append(trial.NotWorkers(), 3, 4, 5) {
		m, keys := newMem(t, 3, 0, lengths...)
		s := New(worker)
		n, done := mem.Finish(m, s, most)
		if e := s.Err(); e != api.OK {
			t.Fatalf("of the worker %d: Err = %v", worker, e)
		}
		if want := stepsOf(3, lengths...); done != (worker >= 0) || done && n != want || !done && n != want-(3+3) {
			t.Fatalf("of the worker %d: Finish = %d, %v", worker, n, done)
		}
		trial.CheckTable(t, m, half(keys))
		if done {
			continue
		}
		trial.Stuck(t, m, s, "no lock is to be had")
		for _, a := range allAsked(lengths...) {
			beside.Got(t, m, 1, a, 4, "a worker below 0")
		}
	}
}

// ends has a shrink of a memory that isn't as it has to be come to its end, behind which the period's lock is free, and chains are these, and says whether the flag is up.
func ends(t *testing.T, m *mem.Mem, what string, chains ...[]arena.Handle) bool {
	t.Helper()
	s, n := New(0), m.Now().N/2
	trial.Alone(t, m, s, what)
	if holder := m.Locks.Holder(periodLock); m.Now().N != n || s.Err() != api.OK || holder != -1 {
		t.Fatalf("%s: the table is %v, Err = %v, the period's lock has %d", what, m.Now(), s.Err(), holder)
	}
	for bucket, want := range chains {
		if l := m.Chain(bucket); !slices.Equal(l, want) {
			t.Fatalf("%s: the chain %d is %v, not %v", what, bucket, l, want)
		}
	}
	return m.Arena.Fault()
}

// stales are handles that are stale in the tests' memories, and words that never were a handle.
func stales() []arena.Handle {
	return []arena.Handle{1, 3 + far, far, 2 * far, 1 << 32, 1<<63 + 2, 1<<64 - 1}
}

// putStale has a stale handle in the cells of these buckets, of the table that counts.
func putStale(t *testing.T, m *mem.Mem, stale arena.Handle, buckets ...int) {
	t.Helper()
	if m.Arena.Live(stale) {
		t.Fatalf("%d is live", stale)
	}
	for _, bucket := range buckets {
		trial.Put(t, m, m.Now().Base+bucket, stale)
	}
}

// P14.1, P14.2, R1: of a stale handle, or a word that never was one, in a bucket's cell the chain has no node: the other one's are there, and other buckets' come to be one as ever. If it is the first one's, and the second one isn't empty, it is read, and the flag is up.
func TestStaleInCell(t *testing.T) {
	for _, stale := range stales() {
		eachPair(3, func(first, second int) {
			for _, buckets := range [][]int{{0}, {2}, {0, 2}, {1}, {3}, {1, 3}, {0, 1}, {0, 1, 2, 3}} {
				m, _ := newMem(t, 1, 0, first, 1, second, 2)
				putStale(t, m, stale, buckets...)
				var want [][]arena.Handle
				read := false
				for bucket := range 2 {
					want = append(want, slices.Concat(m.Chain(bucket), m.Chain(bucket+2)))
					word, _ := m.Cells.Load(m.Now().Base + bucket + 2)
					read = read || word != 0 && slices.Contains(buckets, bucket)
				}
				if up := ends(t, m, fmt.Sprintf("of %d and %d, %d in %v", first, second, stale, buckets), want...); up != read {
					t.Fatalf("of %d and %d, %d in %v, the flag is up: %v", first, second, stale, buckets, up)
				}
			}
		})
	}
}

// P14.1, P14.2, R1: a stale handle in a node's Next ends its chain: those ahead of it are there, and all nodes of the other chain. In the first one it is read, if the second one has nodes, and the flag is up.
func TestStaleInChain(t *testing.T) {
	eachPair(4, func(first, second int) {
		for _, stale := range stales() {
			for cut := 1; cut <= first; cut++ {
				m, _ := newMem(t, 1, 0, first, second)
				one, two := m.Chain(0), m.Chain(1)
				trial.Link(t, m, one[cut-1], stale)
				up := ends(t, m, fmt.Sprintf("of %d and %d, stale behind %d", first, second, cut), slices.Concat(one[:cut], two))
				if up != (second > 0) {
					t.Fatalf("of %d and %d, stale behind %d, the flag is up: %v", first, second, cut, up)
				}
			}
			for cut := 1; cut <= second; cut++ {
				m, _ := newMem(t, 1, 0, first, second)
				one, two := m.Chain(0), m.Chain(1)
				trial.Link(t, m, two[cut-1], stale)
				ends(t, m, fmt.Sprintf("of %d and %d, the second one stale behind %d", first, second, cut), slices.Concat(one, two[:cut]))
			}
		}
	})
}

// P14.1, R1: a node that is freed between any two of its steps, by somebody who mustn't: no step panics, and all end.
func TestFreedMeanwhile(t *testing.T) {
	lengths := []int{2, 1, 2, 1}
	for ahead := range stepsOf(1, lengths...) {
		for place := range 6 {
			m, _ := newMem(t, 1, 0, lengths...)
			s := New(0)
			trial.Ahead(t, m, s, ahead, "steps ahead")
			trial.Free(t, m, trial.Look(m).Live()[1+place])
			if n, done := mem.Finish(m, s, 1000); !done || m.Now().N != 2 {
				t.Fatalf("behind %d steps, of the node %d, it takes %d steps, the table is %v", ahead, place, n, m.Now())
			}
		}
	}
}

// allGotIn says whether each of these keys is found, and, in chains that end, one more isn't.
func allGotIn(t *testing.T, m *mem.Mem, asked []beside.Asked, ended bool, nodes int, what string) {
	t.Helper()
	for _, a := range asked {
		if a.There || ended {
			beside.Got(t, m, 0, a, nodes, what)
		}
	}
}

// P14.1, P14.2, R1: a first chain whose end comes back to it, to whichever node, has an end where a node was met already: all its nodes are there behind that, and those of the second one behind them, and the flag stays down. If the second one has nodes, the end doesn't come back any more, and a get of a key that isn't there ends, too.
func TestRound(t *testing.T) {
	eachPair(4, func(first, second int) {
		for back := range first {
			m, _ := newMem(t, 1, 0, first, second)
			one, two := m.Chain(0), m.Chain(1)
			trial.Link(t, m, one[first-1], one[back])
			what := fmt.Sprintf("of %d and %d, back to %d", first, second, back)
			if ends(t, m, what, slices.Concat(one, two)) {
				t.Fatalf("%s: the flag is up", what)
			}
			allGotIn(t, m, allAsked(first, second), second > 0, first+second, what)
		}
	})
}

// P14.1, P14.2, R1: a second chain whose end comes back to it, or to the first one, changes nothing of that: all nodes are there, those of the first one first, and the flag stays down.
func TestSecondRound(t *testing.T) {
	eachPair(3, func(first, second int) {
		for back := range first + second {
			if second == 0 {
				continue
			}
			m, _ := newMem(t, 1, 0, first, second)
			all := slices.Concat(m.Chain(0), m.Chain(1))
			trial.Link(t, m, all[len(all)-1], all[back])
			what := fmt.Sprintf("of %d and %d, the second one back to %d", first, second, back)
			if ends(t, m, what, all) {
				t.Fatalf("%s: the flag is up", what)
			}
			allGotIn(t, m, allAsked(first, second), false, first+second, what)
		}
	})
}

// P14.3: while chains of which the first one comes back are made one gets find the keys that are there.
func TestGetInRound(t *testing.T) {
	eachPair(3, func(first, second int) {
		for back := range first {
			m, _ := newMem(t, 2, 0, first, second)
			one := m.Chain(0)
			trial.Link(t, m, one[first-1], one[back])
			s := New(0)
			for n, done := 0, false; !done; n++ {
				for _, a := range allAsked(first, second) {
					if a.There {
						beside.Got(t, m, 1, a, first+second, fmt.Sprintf("of %d and %d, back to %d", first, second, back))
					}
				}
				if done = s.Step(m); n > 1000 {
					t.Fatalf("of %d and %d, back to %d, it has no end", first, second, back)
				}
			}
		}
	})
}

// P14.1, P14.2, R1: two buckets with the same chain, or of which the second one has the end of the first one's, are one chain already: it stays as it is, its end doesn't come back, so that gets of keys that aren't there end, and the flag stays down.
func TestSameChain(t *testing.T) {
	for length := 1; length <= 5; length++ {
		for from := range length {
			m, _ := newMem(t, 2, 0, length, 0)
			l := m.Chain(0)
			trial.Put(t, m, m.Now().Base+1, l[from])
			before := trial.Look(m)
			what := fmt.Sprintf("of %d, the second one from %d on", length, from)
			if ends(t, m, what, l) {
				t.Fatalf("%s: the flag is up", what)
			}
			if after := trial.Look(m); !slices.Equal(after.Places, before.Places) {
				t.Fatalf("%s: the nodes are %v, not %v", what, after.Places, before.Places)
			}
			allGotIn(t, m, allAsked(length, 0), true, length, what)
		}
	}
}

// P14.1, P14.2, R1: of two buckets of which the first one has the end of the second one's chain all nodes are there, those of the first one first, and the flag stays down.
func TestEndOfSecond(t *testing.T) {
	for length := 2; length <= 5; length++ {
		for from := 1; from < length; from++ {
			m, _ := newMem(t, 2, 0, 0, length)
			l := m.Chain(1)
			trial.Put(t, m, m.Now().Base, l[from])
			if ends(t, m, "the end of the second one's", slices.Concat(l[from:], l[:from])) {
				t.Fatal("the flag is up")
			}
		}
	}
}

// P14.1, P14.2, R1: of two buckets that don't come to be one, of which one has the other one's chain, or its end, both come to have what each of them comes to have, and the flag stays down.
func TestSameOfOthers(t *testing.T) {
	eachPair(3, func(first, second int) {
		for from := range first {
			for last := range 3 {
				m, _ := newMem(t, 1, 0, first, 0, second, last)
				trial.Put(t, m, m.Now().Base+1, m.Chain(0)[from])
				all := slices.Concat(m.Chain(0), m.Chain(2), m.Chain(3))
				if ends(t, m, fmt.Sprintf("of %d, %d and %d, from %d on", first, second, last, from), all, all[from:]) {
					t.Fatal("the flag is up")
				}
			}
		}
	})
}

// R1: of chains of buckets that don't come to be one that have a node in common all ends; no step does more than one thing, and no node is gone.
func TestStrangeNodes(t *testing.T) {
	eachPair(3, func(first, second int) {
		for place := range first {
			for _, bucket := range []int{1, 3} {
				m, _ := newMem(t, 1, 0, first, 2, second, 1)
				one := m.Chain(0)
				strange := m.Chain(bucket)
				trial.Link(t, m, strange[len(strange)-1], one[place])
				all := len(m.Reach())
				if ends(t, m, fmt.Sprintf("of %d and %d, strange nodes", first, second)) || len(m.Reach()) != all {
					t.Fatalf("of %d nodes %d are reached", all, len(m.Reach()))
				}
			}
		}
	})
}

// P14.1, R1: long rows of steps of shrinks beside each other, ready or not, of nodes and chains that others change in whatever way, of locks that they take, of tables that come to count, and numbers that no table has: none panics, each does one thing at most, and tells an error just as it is done; left alone, each is done in not many steps, or waits for somebody.
func TestRow(t *testing.T) {
	done, fails := 0, 0
	for workers := 1; workers <= mostWorkers; workers++ {
		for seed := range uint32(25) {
			r := trial.NewFrames(t, workers, seed)
			r.Make = func(worker int) trial.Failing {
				if r.M.Now().N < 2 && r.Next(3) > 0 {
					trial.Count(r.M, trial.NewTable(t, r.M, 2<<r.Next(3)))
				}
				return New(worker)
			}
			r.Go(600)
			r.LeaveAlone()
			done, fails = done+r.Done, fails+r.Fails
		}
	}
	if done-fails < 300 || fails < 100 {
		t.Errorf("of %d shrinks that are done %d failed", done, fails)
	}
}
