package grow

import (
	"fmt"
	"slices"
	"testing"

	"quietus/api"
	"quietus/arena"
	"quietus/mem"
	"quietus/trial"
)

// P13.1: of a number in cell 1 of which there is no table, what counts is the zero table of layer 5, of no bucket: there is none of twice the N, which is size; nothing is changed, and the number stays.
func TestWrongNumber(t *testing.T) {
	for _, number := range trial.WrongNumbers(2) {
		m, _ := newMem(t, 2, 0, "01", "10")
		m.Cells.Store(currentCell, number)
		failed(t, m, api.ErrSize, "a wrong number")
	}
}

// R1: of a worker that there isn't, below 0 or beyond the last one, all calls end, and none panics. None below 0 can have the period's lock: such a grow comes to its first wait, and no further, and each key is found yet; one beyond the last one is done as any other.
func TestNoWorker(t *testing.T) {
	rows := []string{"0110", "01"}
	for _, worker := range append(trial.NotWorkers(), 3, 4, 5) {
		m, keys := newMem(t, 3, 0, rows...)
		g := New(worker)
		n, done := mem.Finish(m, g, most)
		if e := g.Err(); e != api.OK {
			t.Fatalf("of the worker %d: Err = %v", worker, e)
		}
		if worker >= 0 {
			if !done || n != stepsOf(3, rows...) {
				t.Fatalf("of the worker %d: Finish = %d, %v", worker, n, done)
			}
			check(t, m, 4, keys)
			continue
		}
		if done {
			t.Fatalf("of the worker %d: Finish = %d, %v", worker, n, done)
		}
		trial.Stuck(t, m, g, "no lock is to be had")
		for _, a := range allAsked(rows...) {
			got(t, m, 1, a, 4, "a worker below 0")
		}
	}
}

// goesOn has a grow of a memory that isn't as it has to be take all its steps, of which there aren't many: each of them changes one thing at most.
func goesOn(t *testing.T, m *mem.Mem, g *Grow, what string) {
	t.Helper()
	steps := 0
	for done := false; !done; steps++ {
		before := trial.Look(m)
		if !g.Ready(m) || steps > 1000 {
			t.Fatalf("%s: behind %d steps it isn't done, or not ready", what, steps)
		}
		done = g.Step(m)
		onlyOne(t, before, trial.Look(m), what)
	}
}

// ends has such a grow come to its end, behind which no chain has a node of another bucket, and the period's lock is free.
func ends(t *testing.T, m *mem.Mem, what string) {
	t.Helper()
	g, n := New(0), 2*m.Now().N
	goesOn(t, m, g, what)
	s := trial.Look(m)
	if m.Now().N != n || g.Err() != api.OK || s.Holders[periodLock] != -1 {
		t.Fatalf("%s: the table is %v, Err = %v, the period's lock has %d", what, m.Now(), g.Err(), s.Holders[periodLock])
	}
	for bucket := range n {
		if l := m.Chain(bucket); len(of(s, l, bucket, n)) != len(l) {
			t.Fatalf("%s: the chain %d of %d is %v", what, bucket, n, l)
		}
	}
}

// onlyOne says whether a step changed one thing at most: a word, a lock, a node, or that there is a table more. Others stay as they are.
func onlyOne(t *testing.T, before, after trial.Seen, what string) {
	t.Helper()
	changes := len(after.Tables) - len(before.Tables)
	for i, word := range before.Words {
		if after.Words[i] != word {
			changes++
		}
	}
	for lock, holder := range before.Holders {
		if after.Holders[lock] != holder {
			changes++
		}
	}
	for i, place := range before.Places {
		next := after.Places[i].Node.Next
		if next != place.Node.Next {
			changes++
		}
		place.Node.Next = next
		if after.Places[i] != place {
			t.Fatalf("%s: a step has the place of %v be %v", what, place, after.Places[i])
		}
	}
	if changes > 1 || len(after.Places) != len(before.Places) || !slices.Equal(after.Waiting, before.Waiting) || before.Fault && !after.Fault {
		t.Fatalf("%s: a step changes %v to %v", what, before, after)
	}
}

// P13.1, R1: a stale handle, or a word that never was one, in a bucket's cell can't be read: the flag is up, that chain has no node, and others are parted as ever.
func TestStaleInCell(t *testing.T) {
	for _, word := range append(trial.Words(), 1, 1+far, far) {
		m, keys := newMem(t, 1, 0, "01", "1001")
		trial.Put(t, m, m.Now().Base, arena.Handle(word))
		if word == 0 || m.Arena.Live(arena.Handle(word)) {
			continue
		}
		ends(t, m, "a stale handle in a cell")
		if !m.Arena.Fault() {
			t.Fatalf("of the word %d in a cell the flag is down", word)
		}
		for _, bucket := range []int{0, 2} {
			if l := m.Chain(bucket); len(l) != 0 {
				t.Fatalf("of the word %d the chain %d is %v", word, bucket, l)
			}
		}
		for _, key := range keys[1] {
			if val, had := trial.ValOf(m, key); !had || val != valOf(key) {
				t.Fatalf("of the word %d the key %q has %q, %v", word, key, val, had)
			}
		}
	}
}

// P13.1, R1: a stale handle in a node's Next can't be read: the flag is up, and the chain has those nodes that come ahead of it, each in its own bucket.
func TestStaleInChain(t *testing.T) {
	eachRow(5, func(row string) {
		for cut := 1; cut <= len(row); cut++ {
			for _, word := range []arena.Handle{1, 3 + far, far, 1<<64 - 1} {
				m, keys := newMem(t, 1, 0, row)
				l := m.Chain(0)
				trial.Link(t, m, l[cut-1], word)
				if m.Arena.Live(word) {
					t.Fatalf("%d is live", word)
				}
				ends(t, m, fmt.Sprintf("of %q, stale behind %d", row, cut))
				m.Arena.Link(l[cut-1], 0)
				for bucket := range 2 {
					if is, want := m.Chain(bucket), of(trial.Look(m), l[:cut], bucket, 2); !slices.Equal(is, want) {
						t.Fatalf("of %q, stale behind %d, the chain %d is %v, not %v", row, cut, bucket, is, want)
					}
				}
				if !m.Arena.Fault() || len(keys[0]) != len(row) {
					t.Fatal("the flag is down")
				}
			}
		}
	})
}

// P13.1, R1: a node that is freed between any two of its steps, by somebody who mustn't: no step panics, and all end.
func TestFreedMeanwhile(t *testing.T) {
	rows := []string{"0110", "01"}
	for ahead := range stepsOf(1, rows...) {
		for place := range 6 {
			m, _ := newMem(t, 1, 0, rows...)
			g := New(0)
			trial.Ahead(t, m, g, ahead, "steps ahead")
			trial.Free(t, m, trial.Look(m).Live()[1+place])
			if n, done := mem.Finish(m, g, 1000); !done {
				t.Fatalf("behind %d steps, of the node %d, it takes %d steps", ahead, place, n)
			}
		}
	}
}

// P13.1, R1: a chain whose end comes back to it, to whichever node, has an end where a node was met already: all its nodes are there behind that, each in its own bucket, in the order in which they stood, and the flag stays down.
func TestRound(t *testing.T) {
	eachRow(6, func(row string) {
		for back := range row {
			m, _ := newMem(t, 1, 0, row, "10")
			l := m.Chain(0)
			trial.Link(t, m, l[len(l)-1], l[back])
			ends(t, m, fmt.Sprintf("of %q, back to %d", row, back))
			for _, bucket := range []int{0, 2} {
				if is, want := m.Chain(bucket), of(trial.Look(m), l, bucket, 4); !slices.Equal(is, want) {
					t.Fatalf("of %q, back to %d, the chain %d is %v, not %v", row, back, bucket, is, want)
				}
			}
			if m.Arena.Fault() {
				t.Fatal("the flag is up")
			}
		}
	})
}

// P13.3: while a chain that comes back is parted gets find the keys that are there.
func TestGetInRound(t *testing.T) {
	eachRow(4, func(row string) {
		for back := range row {
			m, keys := newMem(t, 2, 0, row)
			l := m.Chain(0)
			trial.Link(t, m, l[len(l)-1], l[back])
			g := New(0)
			steps := 0
			for done := false; !done && steps < 1000; steps++ {
				for _, key := range keys[0] {
					got(t, m, 1, asked{key, true}, len(row), fmt.Sprintf("of %q, back to %d", row, back))
				}
				done = g.Step(m)
			}
			if steps == 1000 {
				t.Fatalf("of %q, back to %d, it has no end", row, back)
			}
		}
	})
}

// P13.2: the bucket of a node is its Sum's, whatever its key is.
func TestBySum(t *testing.T) {
	for marks := range uint32(1 << 4) {
		m, _ := newMem(t, 1, 0, "", "")
		var nodes []arena.Node
		for i := range uint32(4) {
			nodes = append(nodes, arena.Node{Key: "a", Val: fmt.Sprint(i), Sum: 8*i + marks>>i&1*2})
		}
		l := trial.Lay(t, m, m.Now().Base, nodes...)
		newPair(t, 0).finish(m)
		s := trial.Look(m)
		for _, bucket := range []int{0, 2} {
			if is := m.Chain(bucket); !slices.Equal(is, of(s, l, bucket, 4)) {
				t.Fatalf("of the sums %b the chain %d is %v", marks, bucket, is)
			}
		}
	}
}

// R1: of two buckets that have a node in common, and of a node whose sum is of neither bucket that its chain comes into, all ends; no step does more than one thing, and no node is gone.
func TestStrangeNodes(t *testing.T) {
	eachRow(3, func(row string) {
		for place := range row {
			m, _ := newMem(t, 1, 0, row, "011", "", "")
			l := m.Chain(0)
			trial.Put(t, m, m.Now().Base+2, l[place])
			trial.Link(t, m, l[len(l)-1], m.Chain(1)[1])
			all := len(m.Reach())
			goesOn(t, m, New(0), fmt.Sprintf("of %q, strange nodes", row))
			if len(m.Reach()) != all || m.Now().N != 8 || m.Arena.Fault() {
				t.Fatalf("of %q, of %d nodes %d are reached", row, all, len(m.Reach()))
			}
		}
	})
}

// P13.1, R1: long rows of steps of grows beside each other, ready or not, of nodes and chains that others change in whatever way, of locks that they take, of tables that come to count, and numbers that no table has: none panics, each does one thing at most, and tells an error just as it is done; left alone, each is done in not many steps, or waits for somebody.
func TestRow(t *testing.T) {
	ended, failed := 0, 0
	for workers := 1; workers <= mostWorkers; workers++ {
		for seed := range uint32(25) {
			r := trial.NewRow(t, workers, seed)
			grows := make([]*Grow, workers)
			for range 600 {
				if r.Next(3) == 0 {
					r.Disturb()
				}
				worker := r.Next(workers)
				if grows[worker] == nil {
					if r.M.Now().N > 8 {
						trial.Count(r.M, 0)
					}
					grows[worker] = New(worker)
				}
				g, before := grows[worker], trial.Look(r.M)
				done := g.Step(r.M)
				onlyOne(t, before, trial.Look(r.M), "a row of steps")
				if !done && g.Err() != api.OK {
					t.Fatalf("it isn't done, Err = %v", g.Err())
				}
				if done {
					grows[worker] = nil
					ended++
				}
				if done && g.Err() != api.OK {
					failed++
				}
			}
			leftAlone(t, r.M, grows)
		}
	}
	if ended-failed < 300 || failed < 100 {
		t.Errorf("of %d grows that are done %d failed", ended, failed)
	}
}

// leftAlone has all grows that are on their way come to their ends: with nobody in, and the period's lock free, but for the one who has it.
func leftAlone(t *testing.T, m *mem.Mem, grows []*Grow) {
	t.Helper()
	for worker := range m.Workers() {
		m.Cells.Store(firstCounter+worker, 0)
	}
	m.Locks.Free(periodLock, somebody)
	for range grows {
		for i, g := range grows {
			if g == nil {
				continue
			}
			n, done := mem.Finish(m, g, 2000)
			if n == 2000 {
				t.Fatal("left alone it has no end")
			}
			if done {
				grows[i] = nil
			}
		}
	}
	for worker, g := range grows {
		if g != nil {
			t.Fatalf("left alone the grow of %d isn't done; the period's lock has %d", worker, m.Locks.Holder(periodLock))
		}
	}
}
