package grow

import (
	"fmt"
	"slices"
	"testing"

	"quietus/api"
	"quietus/arena"
	"quietus/beside"
	"quietus/mem"
	"quietus/trial"
)

// P13.1: of a number in cell 1 of which there is no table, what counts is the zero table of layer 5, of no bucket: there is none of twice the N, which is size; nothing is changed, and the number stays.
func TestWrongNumber(t *testing.T) {
	for _, number := range trial.WrongNumbers(2) {
		m, _ := newMem(t, 2, 0, "01", "10")
		m.Cells.Store(currentCell, number)
		trial.Fails(t, m, New(0), api.ErrSize, "a wrong number")
	}
}

// R1: of a worker that there isn't, below 0 or beyond the last one, all calls end, and none panics. None below 0 can have the period's lock: such a grow comes to its first wait, and no further, and each key is found yet; one beyond the last one is done as any other.
func TestNoWorker(t *testing.T) {
	rows := []string{"0110", "01"}
	for _, worker := range append(trial.NotWorkers(), 3, 4, 5) {
		m, keys := newMem(t, 3, 0, rows...)
		g := New(worker)
		n, done := mem.Finish(m, g, most)
		if e := g.Err(); e != api.OK {
			t.Fatalf("of the worker %d: Err = %v", worker, e)
		}
		if worker >= 0 {
			if !done || n != stepsOf(3, rows...) {
				t.Fatalf("of the worker %d: Finish = %d, %v", worker, n, done)
			}
			trial.CheckTable(t, m, trial.Spread(keys, 4))
			continue
		}
		if done {
			t.Fatalf("of the worker %d: Finish = %d, %v", worker, n, done)
		}
		trial.Stuck(t, m, g, "no lock is to be had")
		for _, a := range allAsked(rows...) {
			beside.Got(t, m, 1, a, 4, "a worker below 0")
		}
	}
}

// ends has a grow of a memory that isn't as it has to be come to its end, behind which no chain has a node of another bucket, and the period's lock is free.
func ends(t *testing.T, m *mem.Mem, what string) {
	t.Helper()
	g, n := New(0), 2*m.Now().N
	trial.Alone(t, m, g, what)
	s := trial.Look(m)
	if m.Now().N != n || g.Err() != api.OK || s.Holders[periodLock] != -1 {
		t.Fatalf("%s: the table is %v, Err = %v, the period's lock has %d", what, m.Now(), g.Err(), s.Holders[periodLock])
	}
	for bucket := range n {
		if l := m.Chain(bucket); len(s.Own(l, bucket, n)) != len(l) {
			t.Fatalf("%s: the chain %d of %d is %v", what, bucket, n, l)
		}
	}
}

// P13.1, R1: a stale handle, or a word that never was one, in a bucket's cell can't be read: the flag is up, that chain has no node, and others are parted as ever.
func TestStaleInCell(t *testing.T) {
	for _, word := range append(trial.Words(), 1, 1+far, far) {
		m, keys := newMem(t, 1, 0, "01", "1001")
		trial.Put(t, m, m.Now().Base, arena.Handle(word))
		if word == 0 || m.Arena.Live(arena.Handle(word)) {
			continue
		}
		ends(t, m, "a stale handle in a cell")
		if !m.Arena.Fault() {
			t.Fatalf("of the word %d in a cell the flag is down", word)
		}
		for _, bucket := range []int{0, 2} {
			if l := m.Chain(bucket); len(l) != 0 {
				t.Fatalf("of the word %d the chain %d is %v", word, bucket, l)
			}
		}
		for _, key := range keys[1] {
			if val, had := trial.ValOf(m, key); !had || val != trial.OwnVal(key) {
				t.Fatalf("of the word %d the key %q has %q, %v", word, key, val, had)
			}
		}
	}
}

// P13.1, R1: a stale handle in a node's Next can't be read: the flag is up, and the chain has those nodes that come ahead of it, each in its own bucket.
func TestStaleInChain(t *testing.T) {
	eachRow(5, func(row string) {
		for cut := 1; cut <= len(row); cut++ {
			for _, word := range []arena.Handle{1, 3 + far, far, 1<<64 - 1} {
				m, keys := newMem(t, 1, 0, row)
				l := m.Chain(0)
				trial.Link(t, m, l[cut-1], word)
				if m.Arena.Live(word) {
					t.Fatalf("%d is live", word)
				}
				ends(t, m, fmt.Sprintf("of %q, stale behind %d", row, cut))
				m.Arena.Link(l[cut-1], 0)
				for bucket := range 2 {
					if is, want := m.Chain(bucket), trial.Look(m).Own(l[:cut], bucket, 2); !slices.Equal(is, want) {
						t.Fatalf("of %q, stale behind %d, the chain %d is %v, not %v", row, cut, bucket, is, want)
					}
				}
				if !m.Arena.Fault() || len(keys[0]) != len(row) {
					t.Fatal("the flag is down")
				}
			}
		}
	})
}

// P13.1, R1: a node that is freed between any two of its steps, by somebody who mustn't: no step panics, and all end.
func TestFreedMeanwhile(t *testing.T) {
	rows := []string{"0110", "01"}
	for ahead := range stepsOf(1, rows...) {
		for place := range 6 {
			m, _ := newMem(t, 1, 0, rows...)
			g := New(0)
			trial.Ahead(t, m, g, ahead, "steps ahead")
			trial.Free(t, m, trial.Look(m).Live()[1+place])
			if n, done := mem.Finish(m, g, 1000); !done {
				t.Fatalf("behind %d steps, of the node %d, it takes %d steps", ahead, place, n)
			}
		}
	}
}

// P13.1, R1: a chain whose end comes back to it, to whichever node, has an end where a node was met already: all its nodes are there behind that, each in its own bucket, in the order in which they stood, and the flag stays down.
func TestRound(t *testing.T) {
	eachRow(6, func(row string) {
		for back := range row {
			m, _ := newMem(t, 1, 0, row, "10")
			l := m.Chain(0)
			trial.Link(t, m, l[len(l)-1], l[back])
			ends(t, m, fmt.Sprintf("of %q, back to %d", row, back))
			for _, bucket := range []int{0, 2} {
				if is, want := m.Chain(bucket), trial.Look(m).Own(l, bucket, 4); !slices.Equal(is, want) {
					t.Fatalf("of %q, back to %d, the chain %d is %v, not %v", row, back, bucket, is, want)
				}
			}
			if m.Arena.Fault() {
				t.Fatal("the flag is up")
			}
		}
	})
}

// P13.3: while a chain that comes back is parted gets find the keys that are there.
func TestGetInRound(t *testing.T) {
	eachRow(4, func(row string) {
		for back := range row {
			m, keys := newMem(t, 2, 0, row)
			l := m.Chain(0)
			trial.Link(t, m, l[len(l)-1], l[back])
			g := New(0)
			steps := 0
			for done := false; !done && steps < 1000; steps++ {
				for _, key := range keys[0] {
					beside.Got(t, m, 1, beside.Asked{Key: key, There: true}, len(row), fmt.Sprintf("of %q, back to %d", row, back))
				}
				done = g.Step(m)
			}
			if steps == 1000 {
				t.Fatalf("of %q, back to %d, it has no end", row, back)
			}
		}
	})
}

// P13.2: the bucket of a node is its Sum's, whatever its key is.
func TestBySum(t *testing.T) {
	for marks := range uint32(1 << 4) {
		m, _ := newMem(t, 1, 0, "", "")
		var nodes []arena.Node
		for i := range uint32(4) {
			nodes = append(nodes, arena.Node{Key: "a", Val: fmt.Sprint(i), Sum: 8*i + marks>>i&1*2})
		}
		l := trial.Lay(t, m, m.Now().Base, nodes...)
		newPair(t, 0).Finish(m)
		s := trial.Look(m)
		for _, bucket := range []int{0, 2} {
			if is := m.Chain(bucket); !slices.Equal(is, s.Own(l, bucket, 4)) {
				t.Fatalf("of the sums %b the chain %d is %v", marks, bucket, is)
			}
		}
	}
}

// R1: of two buckets that have a node in common, and of a node whose sum is of neither bucket that its chain comes into, all ends; no step does more than one thing, and no node is gone.
func TestStrangeNodes(t *testing.T) {
	eachRow(3, func(row string) {
		for place := range row {
			m, _ := newMem(t, 1, 0, row, "011", "", "")
			l := m.Chain(0)
			trial.Put(t, m, m.Now().Base+2, l[place])
			trial.Link(t, m, l[len(l)-1], m.Chain(1)[1])
			all := len(m.Reach())
			trial.Alone(t, m, New(0), fmt.Sprintf("of %q, strange nodes", row))
			if len(m.Reach()) != all || m.Now().N != 8 || m.Arena.Fault() {
				t.Fatalf("of %q, of %d nodes %d are reached", row, all, len(m.Reach()))
			}
		}
	})
}

// P13.1, R1: long rows of steps of grows beside each other, ready or not, of nodes and chains that others change in whatever way, of locks that they take, of tables that come to count, and numbers that no table has: none panics, each does one thing at most, and tells an error just as it is done; left alone, each is done in not many steps, or waits for somebody.
func TestRow(t *testing.T) {
	done, fails := 0, 0
	for workers := 1; workers <= mostWorkers; workers++ {
		for seed := range uint32(25) {
			r := trial.NewFrames(t, workers, seed)
			r.Make = func(worker int) trial.Failing {
				if r.M.Now().N > 8 {
					trial.Count(r.M, 0)
				}
				return New(worker)
			}
			r.Go(600)
			r.LeaveAlone()
			done, fails = done+r.Done, fails+r.Fails
		}
	}
	if done-fails < 300 || fails < 100 {
		t.Errorf("of %d grows that are done %d failed", done, fails)
	}
}
