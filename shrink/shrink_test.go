package shrink

import (
	"fmt"
	"slices"
	"testing"

	"quietus/api"
	"quietus/arena"
	"quietus/mem"
	"quietus/trial"
)

// P14.1, P14.2: of a table of two buckets, of chains of none, one and many nodes, each step does what the chapter says, and nothing else: the table is made; the last node of the first chain comes to have the first one of the second as its Next, the first node of all comes into the cell, and the table counts then; there is one wait behind that; and it comes to one bucket with the nodes of both, those of the first one first, each in the order in which they stood.
func TestEachPair(t *testing.T) {
	eachPair(8, func(first, second int) { shrinks(t, 1, 0, first, second) })
}

// P14.1, P14.2: the same of a table of four buckets, and of eight, of which some stay empty: what two chains are doesn't matter to the others, and buckets have their turns from 0 on.
func TestTwoPairs(t *testing.T) {
	eachPair(2, func(a, b int) {
		eachPair(2, func(c, d int) {
			shrinks(t, 2, 1, a, b, c, d)
			shrinks(t, 1, 0, b, 0, a, c, 0, 0, d, 0)
		})
	})
}

// P14.1, P14.2: the same of tables of two buckets and of many, of any number of workers, by any of them.
func TestTables(t *testing.T) {
	for workers := 1; workers <= mostWorkers; workers++ {
		for worker := range workers {
			for i, n := range []int{2, 4, 8, 16, 64} {
				next := trial.Picker(uint32(workers*64 + worker*8 + i))
				var lengths []int
				for range n {
					lengths = append(lengths, next(2)*next(40/n+3))
				}
				shrinks(t, workers, worker, lengths...)
			}
		}
	}
}

// P14.1, P14.2: an empty table shrinks to an empty one, of whatever number of buckets.
func TestEmpty(t *testing.T) {
	for workers := 1; workers <= mostWorkers; workers++ {
		for n := 2; n <= 64; n *= 2 {
			m := shrinks(t, workers, workers-1, make([]int, n)...)
			if l := m.Reach(); len(l) != 0 {
				t.Fatalf("of %d empty buckets these are reached: %v", n, l)
			}
		}
	}
}

// changes are what a shrink of a memory changes, in the order in which it does.
func changes(m *mem.Mem, s *Shrink) []string {
	var l []string
	for done := false; !done; {
		before := trial.Look(m)
		done = s.Step(m)
		after := trial.Look(m)
		if len(after.Tables) > len(before.Tables) {
			l = append(l, "table")
			continue
		}
		if h := after.Changed(before); h != 0 {
			node, _ := after.Node(h)
			l = append(l, fmt.Sprintf("%d to %d", h, node.Next))
		}
		for cell, word := range before.Words {
			if after.Words[cell] != word {
				l = append(l, fmt.Sprintf("cell %d is %d", cell, after.Words[cell]))
			}
		}
		for lock, holder := range before.Holders {
			if after.Holders[lock] != holder {
				l = append(l, fmt.Sprintf("lock %d has %d", lock, after.Holders[lock]))
			}
		}
	}
	return l
}

// P14.1, P14.2: the order of its doings, written out, of eight buckets: the table; bucket by bucket, from 0 on, two chains that are made one, and the cell; behind all of them the table counts; and behind that it waits, once.
func TestOrder(t *testing.T) {
	m, _ := newMem(t, 2, 1, 2, 1, 0, 0, 1, 0, 2, 0)
	// The nodes are 2 and 3, 4, 5, and 6 and 7 of the buckets 0, 1, 4 and 6, whose table's cells are from 5 on; the newer one's are from 13 on.
	want := []string{
		"table", "3 to 5", "cell 13 is 2", "cell 14 is 4", "cell 15 is 6",
		"cell 1 is 2", "lock 0 has 1", "cell 0 is 8", "lock 0 has -1",
	}
	if is := changes(m, New(1)); !slices.Equal(is, want) {
		t.Fatalf("it does %q, not %q", is, want)
	}
}

// P14.1, P14.2: of as many nodes as there can be, in the first chain, in the second one, in both, it is done in so many steps, and all of them are there.
func TestManyNodes(t *testing.T) {
	const nodes = mostNodes - 2
	for _, first := range []int{0, 1, nodes / 2, nodes - 1, nodes} {
		m, keys := newMem(t, 2, 0, first, nodes-first)
		trial.Finish(t, m, New(0), stepsOf(2, first, nodes-first), "many nodes")
		trial.CheckTable(t, m, half(keys))
	}
}

// P14.1, P14.2: the greatest table shrinks, of whatever nodes, in so many steps; of buckets that stay empty there is nothing but their cells to be loaded.
func TestMostBuckets(t *testing.T) {
	for _, nodes := range []int{0, 1, mostNodes} {
		m, e := mem.New(mostNodes, 2)
		if e != api.OK {
			t.Fatal(e)
		}
		var all []string
		for i := range nodes {
			all = append(all, fmt.Sprint(i))
		}
		keys := trial.Spread([][]string{all}, mostBuckets)
		trial.LayTable(t, m, keys)
		trial.Finish(t, m, New(0), stepsOf(2, lengthsOf(keys)...), "most buckets")
		trial.CheckTable(t, m, half(keys))
	}
}

// P14.1, P14.2: it is the table that counts that shrinks, whichever of several it is, and the others stay as they are.
func TestWhichTable(t *testing.T) {
	for number := 1; number < 4; number++ {
		m, _ := newMem(t, 1, 0, 1, 2)
		trial.LayTable(t, m, keysIn(1, 0, 2, 1))
		trial.LayTable(t, m, keysIn(2, 1))
		trial.Count(m, number)
		before := trial.Look(m)
		x := newPair(t, 0)
		x.Finish(m)
		shrunk(before).Check(t, m, fmt.Sprintf("the table %d", number))
		if x.p.elder != before.Tables[number] || 2*m.Now().N != x.p.elder.N {
			t.Fatalf("of the table %d the newer one is %v", number, m.Now())
		}
	}
}

// P14.1: what counts is the table that does so at the first step: one that came to count ahead of that, behind New, too.
func TestLoadedFirst(t *testing.T) {
	m, _ := newMem(t, 1, 0, 1, 2)
	x := newPair(t, 0)
	trial.LayTable(t, m, keysIn(1, 1, 1, 0))
	before := trial.Look(m)
	x.Finish(m)
	shrunk(before).Check(t, m, "a table that came to count behind New")
}

// P14.1: of one bucket there is no table of half the N: size, whatever else there is, no room for its cells, too; the table is what it was. With the table of which a memory is made it is the same.
func TestOneBucket(t *testing.T) {
	for _, length := range []int{0, 1, 5} {
		for _, full := range []bool{false, true} {
			m, keys := newMem(t, 2, 0, length)
			if full {
				m.Cells.Grow(mostCells - m.Cells.Len())
			}
			trial.Fails(t, m, New(0), api.ErrSize, "one bucket")
			trial.CheckTable(t, m, keys)
			trial.Count(m, 0)
			trial.Fails(t, m, New(1), api.ErrSize, "table 0")
		}
	}
}

// P14.1: with no room for its cells it is range; with just so much room it is done, whatever the number of buckets.
func TestTooManyCells(t *testing.T) {
	for _, lengths := range [][]int{{1, 2}, {0, 1, 2, 1}, make([]int, 64)} {
		n := len(lengths) / 2
		for _, room := range []int{0, n - 1, n} {
			m, keys := newMem(t, 2, 0, lengths...)
			m.Cells.Grow(mostCells - m.Cells.Len() - room)
			if room < n {
				trial.Fails(t, m, New(0), api.ErrRange, "no room for cells")
				trial.CheckTable(t, m, keys)
				continue
			}
			trial.Finish(t, m, New(0), stepsOf(2, lengths...), "just so much room")
			trial.CheckTable(t, m, half(keys))
		}
	}
}

// P14.1: one that failed leaves a table that another one can be made of, once it is another table.
func TestAfterFailure(t *testing.T) {
	m, keys := newMem(t, 1, 0, 2, 1)
	number := int(trial.Look(m).Words[currentCell])
	trial.Count(m, 0)
	trial.Fails(t, m, New(0), api.ErrSize, "one bucket")
	trial.Count(m, number)
	trial.Finish(t, m, New(0), stepsOf(1, 2, 1), "another table")
	trial.CheckTable(t, m, half(keys))
}

// P14.1: while another one has the period's lock it isn't ready for the first step of its wait, and steps that are taken before change nothing; for all its other steps that lock doesn't matter, nor does any other one.
func TestPeriodLockHeld(t *testing.T) {
	for _, holder := range []int{0, 1, somebody} {
		m, keys := newMem(t, 2, 0, 2, 1, 1, 0)
		for lock := range m.Locks.Len() {
			m.Locks.Try(lock, holder)
		}
		x := newPair(t, 0)
		stuck := 0
		for done := false; !done; done = x.Step(m) {
			if x.p.at == atWait && x.p.wait.Takes() {
				trial.Stuck(t, m, x.F, "the period's lock is held")
				x.Tells("stuck")
				stuck++
				m.Locks.Free(periodLock, holder)
			} else {
				m.Locks.Try(periodLock, holder)
			}
		}
		if stuck != 1 {
			t.Fatalf("it was stuck %d times", stuck)
		}
		trial.CheckTable(t, m, half(keys))
	}
}

// P14.1: it is done with no lock held, too: that its worker has those that it has to isn't looked at, and none of them is touched, whoever has it.
func TestLocksNotLookedAt(t *testing.T) {
	for _, holder := range []int{-1, 0, 1, somebody} {
		m, keys := newMem(t, 2, 0, 2, 1, 1, 0)
		trial.FreeAll(m, 0)
		trial.HoldAll(m, holder)
		before := trial.Look(m)
		newPair(t, 0).Finish(m)
		if l := trial.Look(m).Holders; !slices.Equal(l, before.Holders) {
			t.Fatalf("the holders are %v, not %v", l, before.Holders)
		}
		trial.CheckTable(t, m, half(keys))
	}
}

// P14.2: with the flag up from the beginning on it goes as ever.
func TestFlagUp(t *testing.T) {
	eachPair(2, func(first, second int) {
		m, _ := newMem(t, 1, 0, first, second)
		m.Arena.Read(0)
		before := trial.Look(m)
		newPair(t, 0).Finish(m)
		shrunk(before).Check(t, m, "the flag is up")
	})
}

// P14.2: nodes are in the order of their chains, whatever their keys and sums are.
func TestWhateverNodes(t *testing.T) {
	m, _ := newMem(t, 1, 0, 0, 0)
	base := m.Now().Base
	first := trial.Lay(t, m, base, arena.Node{Key: "a", Val: "0", Sum: 7}, arena.Node{Key: "a", Val: "1"})
	second := trial.Lay(t, m, base+1, arena.Node{Sum: 1<<32 - 1}, arena.Node{Key: "a", Val: "0", Sum: 7})
	before := trial.Look(m)
	newPair(t, 0).Finish(m)
	shrunk(before).Check(t, m, "whatever nodes")
	if l := m.Chain(0); !slices.Equal(l, slices.Concat(first, second)) {
		t.Fatalf("the chain is %v, not %v and %v", l, first, second)
	}
}

// R3: shrinks of two memories know nothing of each other, however far each is.
func TestTwoMemories(t *testing.T) {
	m, ofM := newMem(t, 1, 0, 2, 2)
	o, ofO := newMem(t, 1, 0, 1, 0, 3, 1)
	one, two := newPair(t, 0), newPair(t, 0)
	for left := 2; left > 0; {
		left = 0
		for _, x := range []struct {
			*pair
			m *mem.Mem
		}{{one, m}, {two, o}} {
			if x.p.at != atEnd && !x.Step(x.m) {
				left++
			}
		}
	}
	trial.CheckTable(t, m, half(ofM))
	trial.CheckTable(t, o, half(ofO))
}

// R1: steps behind the last one don't panic, and change nothing, though another shrink of that worker is on its way.
func TestStepBehindEnd(t *testing.T) {
	m, _ := newMem(t, 1, 0, 1, 2, 2, 0)
	one := newPair(t, 0)
	one.Finish(m)
	two := newPair(t, 0)
	for done := false; !done; done = two.Step(m) {
		before := trial.Look(m)
		for range 3 {
			one.F.Ready(m)
			one.F.Step(m)
		}
		one.Tells("behind the end")
		before.Check(t, m, "behind the end")
	}
}

// The document's example: of a table of one bucket, size.
func TestExample(t *testing.T) {
	m, _ := mem.New(1, 1)
	s := New(0)
	if _, done := mem.Finish(m, s, 99); !done || s.Err() != api.ErrSize || m.Now().N != 1 {
		t.Fatalf("%v, Err = %v, the table is %v", done, s.Err(), m.Now())
	}
}
