package grow

import (
	"fmt"
	"slices"
	"strings"
	"testing"

	"quietus/api"
	"quietus/mem"
	"quietus/trial"
)

// keysIn are the keys of such rows, bucket by bucket: a row has a mark for each node of its chain: 0, if it comes into the bucket of the same number of twice as many, 1, if it comes into the other one.
func keysIn(rows ...string) [][]string {
	n := len(rows)
	keys := make([][]string, n)
	for bucket, row := range rows {
		own := [][]string{trial.KeysOf(bucket, 2*n, len(row)), trial.KeysOf(bucket+n, 2*n, len(row))}
		for i, mark := range row {
			keys[bucket] = append(keys[bucket], own[mark-'0'][i])
		}
	}
	return keys
}

// newMem is a memory of such rows, whose worker holds the locks that it has to, and their keys.
func newMem(t *testing.T, workers, worker int, rows ...string) (*mem.Mem, [][]string) {
	t.Helper()
	keys := keysIn(rows...)
	return trial.HeldTable(t, workers, worker, keys), keys
}

// grown is what a memory has to be when a table has come to count that has twice the buckets of the one that counted, each with just its own nodes, in the order in which they stood, and there were so many passes.
func grown(s trial.Seen, passes int) trial.Seen {
	elder, newer := s.Tables[s.Words[currentCell]], len(s.Words)
	n := 2 * elder.N
	s = s.Period(s.Words[periodCell]+uint64(1+passes)).Word(currentCell, uint64(len(s.Tables)))
	s.Words = append(s.Words, make([]uint64, n)...)
	s.Tables = append(slices.Clone(s.Tables), mem.Desc{N: n, Base: newer})
	is := s
	for bucket := range n {
		own := is.Own(is.Chain(elder.Base+bucket%elder.N), bucket, n)
		s.Words[newer+bucket] = uint64(trial.At(own, 0))
		for i, h := range own {
			s = s.Linked(h, trial.At(own, i+1))
		}
	}
	return s
}

// linksOf is how many nodes of such a row are to be linked anew: as many as have one of the other bucket behind them.
func linksOf(row string) int {
	links := 0
	for i := range max(len(row)-1, 0) {
		if row[i] != row[i+1] {
			links++
		}
	}
	return links
}

// passesOf is how many passes part such rows: in each one node of a row is linked.
func passesOf(rows ...string) int {
	passes := 0
	for _, row := range rows {
		passes = max(passes, linksOf(row))
	}
	return passes
}

// stepsOf is how many steps a grow of such rows takes, alone: one loads the number, one makes the table; each cell and node is read, each first node stored; one has the table count, and there is a wait behind that, and behind each pass, in which one node of each common chain is linked.
func stepsOf(workers int, rows ...string) int {
	steps := 3 + (1+passesOf(rows...))*(3+workers)
	for _, row := range rows {
		steps += 1 + len(row) + min(1, strings.Count(row, "0")) + min(1, strings.Count(row, "1")) + linksOf(row)
	}
	return steps
}

// grows has a grow take all steps, alone, and looks at each, and at what all come to.
func grows(t *testing.T, workers, worker int, rows ...string) *mem.Mem {
	t.Helper()
	m, _ := newMem(t, workers, worker, rows...)
	before, n := trial.Look(m), m.Now().N
	x := newPair(t, worker)
	before.Check(t, m, "New")
	if took := x.Finish(m); took != stepsOf(workers, rows...) {
		t.Fatalf("of %q, of %d workers, it takes %d steps, not %d", rows, workers, took, stepsOf(workers, rows...))
	}
	if x.p.passes != passesOf(rows...) {
		t.Fatalf("of %q there are %d passes", rows, x.p.passes)
	}
	grown(before, x.p.passes).Check(t, m, fmt.Sprintf("of %q", rows))
	if m.Now().N != 2*n || m.Locks.Holder(periodLock) != -1 {
		t.Fatalf("of %q the table is %v, the period's lock has %d", rows, m.Now(), m.Locks.Holder(periodLock))
	}
	return m
}

// eachRow does something for each row of marks up to a length, none, too.
func eachRow(length int, do func(row string)) {
	for n := range length + 1 {
		for marks := range 1 << n {
			row := ""
			for i := range n {
				row += fmt.Sprint(marks >> i & 1)
			}
			do(row)
		}
	}
}

// P13.1, P13.2: of a table of one bucket, of a chain of none, one and many nodes, which are of the two buckets in whichever order, each step does what the chapter says, and nothing else: the table is made, has all its first nodes, and counts then; there is a wait behind that, and behind each pass, in which at most one node of a chain is changed; and it comes to two buckets, each with just its own nodes, in the order in which they stood.
func TestEachRow(t *testing.T) {
	eachRow(8, func(row string) { grows(t, 1, 0, row) })
}

// P13.1, P13.2: the same of a table of two buckets, each with whichever chain, and of one of four, of which some stay empty: what one chain is doesn't matter to the others.
func TestTwoRows(t *testing.T) {
	eachRow(4, func(one string) {
		eachRow(3, func(two string) {
			grows(t, 2, 1, one, two)
			grows(t, 1, 0, two, "", one, "")
		})
	})
}

// pickRows are so many rows, of up to so many nodes each; some are empty, or of one bucket alone.
func pickRows(next func(n int) int, n, length int) []string {
	var rows []string
	for range n {
		row, marks := "", []string{"0", "1", "01", "0001", "10"}[next(5)]
		for range next(2) * next(length+1) {
			row += marks[next(len(marks)):][:1]
		}
		rows = append(rows, row)
	}
	return rows
}

// P13.1, P13.2: the same of tables of one bucket and of many, of any number of workers, by any of them.
func TestTables(t *testing.T) {
	for workers := 1; workers <= mostWorkers; workers++ {
		for worker := range workers {
			for i, n := range []int{1, 2, 4, 8, 32} {
				next := trial.Picker(uint32(workers*64 + worker*8 + i))
				grows(t, workers, worker, pickRows(next, n, 40/n+3)...)
			}
		}
	}
}

// P13.1, P13.2: an empty table grows to an empty one, of whatever number of buckets, in one wait.
func TestEmpty(t *testing.T) {
	for workers := 1; workers <= mostWorkers; workers++ {
		for n := 1; n <= 32; n *= 2 {
			m := grows(t, workers, workers-1, make([]string, n)...)
			if l := m.Reach(); len(l) != 0 {
				t.Fatalf("of %d empty buckets these are reached: %v", n, l)
			}
		}
	}
}

// P13.1, P13.2: of as many nodes as there can be, by turns, in rows of two and of many, of one bucket all but one, or all, it is done in so many steps, and each bucket has just its own nodes.
func TestManyNodes(t *testing.T) {
	const nodes = mostNodes - 2
	for _, marks := range []string{"01", "10", "0011", "0", "1", "0000000001", strings.Repeat("0", 400) + strings.Repeat("1", 400)} {
		row := strings.Repeat(marks, nodes)[:nodes]
		for _, row := range []string{row, row[1:] + "1", "0" + row[1:]} {
			m, keys := newMem(t, 2, 0, row)
			trial.Finish(t, m, New(0), stepsOf(2, row), "many nodes")
			trial.CheckTable(t, m, trial.Spread(keys, 2))
		}
	}
}

// P13.1, P13.2: the greatest table that may be made is made, of whatever nodes, in so many steps; those that stay empty take one step each.
func TestMostBuckets(t *testing.T) {
	const n = mostBuckets / 2
	for _, nodes := range []int{0, 1, mostNodes - 2} {
		m, e := mem.New(mostNodes, 2)
		if e != api.OK {
			t.Fatal(e)
		}
		trial.Count(m, trial.NewTable(t, m, n))
		keys := make([][]string, n)
		for i := range nodes {
			key := fmt.Sprint(i)
			bucket := trial.BucketOf(key, n)
			trial.Join(t, m, m.Now().Base+bucket, m.Chain(bucket), len(keys[bucket]), trial.Alloc(t, m, trial.NewNode(key, trial.OwnVal(key))))
			keys[bucket] = append(keys[bucket], key)
		}
		var rows []string
		for bucket, l := range keys {
			row := ""
			for _, key := range l {
				row += fmt.Sprint((trial.BucketOf(key, mostBuckets) - bucket) / n)
			}
			rows = append(rows, row)
		}
		trial.Finish(t, m, New(0), stepsOf(2, rows...), "most buckets")
		trial.CheckTable(t, m, trial.Spread(keys, mostBuckets))
	}
}

// P13.1, P13.2: it is the table that counts that grows, whichever of several it is, and the others stay as they are.
func TestWhichTable(t *testing.T) {
	for number := range 4 {
		m, _ := newMem(t, 1, 0, "0110")
		trial.LayTable(t, m, keysIn("1", "01"))
		trial.LayTable(t, m, keysIn("", "10", "0", ""))
		trial.Count(m, number)
		before := trial.Look(m)
		x := newPair(t, 0)
		x.Finish(m)
		grown(before, x.p.passes).Check(t, m, fmt.Sprintf("the table %d", number))
		if x.p.elder != before.Tables[number] || m.Now().N != 2*x.p.elder.N {
			t.Fatalf("of the table %d the newer one is %v", number, m.Now())
		}
	}
}

// P13.1: what counts is the table that does so at the first step: one that came to count ahead of that, behind New, too.
func TestLoadedFirst(t *testing.T) {
	m, _ := newMem(t, 1, 0, "01")
	x := newPair(t, 0)
	trial.LayTable(t, m, keysIn("", "1"))
	before := trial.Look(m)
	x.Finish(m)
	grown(before, x.p.passes).Check(t, m, "a table that came to count behind New")
}

// P13.1: of the greatest table there is none of twice the N: size, whatever else there is, no room for its cells, too; the table is what it was.
func TestTooManyBuckets(t *testing.T) {
	for _, full := range []bool{false, true} {
		m, _ := newMem(t, 2, 0, "01", "10")
		h := m.Reach()[0]
		trial.Count(m, trial.NewTable(t, m, mostBuckets))
		trial.Put(t, m, m.Now().Base+9, h)
		if full {
			m.Cells.Grow(mostCells - m.Cells.Len())
		}
		trial.Fails(t, m, New(0), api.ErrSize, "too many buckets")
		if l := m.Reach(); m.Now().N != mostBuckets || !slices.Contains(l, h) {
			t.Fatalf("the table is %v, these are reached: %v", m.Now(), l)
		}
	}
}

// P13.1: with no room for its cells it is range; with just so much room it is done, whatever the number of buckets.
func TestTooManyCells(t *testing.T) {
	for _, rows := range [][]string{{"0110"}, {"01", "", "1", "10"}, make([]string, 64)} {
		for _, room := range []int{0, 1, 2*len(rows) - 1, 2 * len(rows)} {
			m, keys := newMem(t, 2, 0, rows...)
			m.Cells.Grow(mostCells - m.Cells.Len() - room)
			if room < 2*len(rows) {
				trial.Fails(t, m, New(0), api.ErrRange, "no room for cells")
				trial.CheckTable(t, m, trial.Spread(keys, len(rows)))
				continue
			}
			trial.Finish(t, m, New(0), stepsOf(2, rows...), "just so much room")
			trial.CheckTable(t, m, trial.Spread(keys, 2*len(rows)))
		}
	}
}

// P13.1: one that failed leaves a table that another one can be made of, once it is another table.
func TestAfterFailure(t *testing.T) {
	m, keys := newMem(t, 1, 0, "0101")
	number := int(trial.Look(m).Words[currentCell])
	trial.Count(m, trial.NewTable(t, m, mostBuckets))
	trial.Fails(t, m, New(0), api.ErrSize, "too many buckets")
	trial.Count(m, number)
	trial.Finish(t, m, New(0), stepsOf(1, "0101"), "another table")
	trial.CheckTable(t, m, trial.Spread(keys, 2))
}

// P13.1: while another one has the period's lock it isn't ready for the first step of any wait, and steps that are taken before change nothing; for all its other steps that lock doesn't matter, nor does any other one.
func TestPeriodLockHeld(t *testing.T) {
	for _, holder := range []int{0, 1, somebody} {
		m, keys := newMem(t, 2, 0, "0110", "01")
		for lock := range m.Locks.Len() {
			m.Locks.Try(lock, holder)
		}
		x := newPair(t, 0)
		stuck := 0
		for done := false; !done; done = x.Step(m) {
			if x.p.at == atWait && x.p.wait.Takes() {
				trial.Stuck(t, m, x.F, "the period's lock is held")
				x.Tells("stuck")
				stuck++
				m.Locks.Free(periodLock, holder)
			} else {
				m.Locks.Try(periodLock, holder)
			}
		}
		if stuck != 1+passesOf("0110") {
			t.Fatalf("it was stuck %d times", stuck)
		}
		trial.CheckTable(t, m, trial.Spread(keys, 4))
	}
}

// P13.1: it is done with no lock held, too: that its worker has those that it has to isn't looked at, and none of them is touched, whoever has it.
func TestLocksNotLookedAt(t *testing.T) {
	for _, holder := range []int{-1, 0, 1, somebody} {
		m, keys := newMem(t, 2, 0, "0110", "01")
		trial.FreeAll(m, 0)
		trial.HoldAll(m, holder)
		before := trial.Look(m)
		newPair(t, 0).Finish(m)
		if l := trial.Look(m).Holders; !slices.Equal(l, before.Holders) {
			t.Fatalf("the holders are %v, not %v", l, before.Holders)
		}
		trial.CheckTable(t, m, trial.Spread(keys, 4))
	}
}

// P13.2: with the flag up from the beginning on it goes as ever.
func TestFlagUp(t *testing.T) {
	eachRow(4, func(row string) {
		m, _ := newMem(t, 1, 0, row)
		m.Arena.Read(0)
		before := trial.Look(m)
		x := newPair(t, 0)
		x.Finish(m)
		grown(before, x.p.passes).Check(t, m, "the flag is up")
	})
}

// R3: grows of two memories know nothing of each other, however far each is.
func TestTwoMemories(t *testing.T) {
	m, ofM := newMem(t, 1, 0, "0101")
	o, ofO := newMem(t, 1, 0, "1100", "10")
	one, two := newPair(t, 0), newPair(t, 0)
	for left := 2; left > 0; {
		left = 0
		for _, x := range []struct {
			*pair
			m *mem.Mem
		}{{one, m}, {two, o}} {
			if x.p.at != atEnd && !x.Step(x.m) {
				left++
			}
		}
	}
	trial.CheckTable(t, m, trial.Spread(ofM, 2))
	trial.CheckTable(t, o, trial.Spread(ofO, 4))
}

// R1: steps behind the last one don't panic, and change nothing, though another grow of that worker is on its way.
func TestStepBehindEnd(t *testing.T) {
	m, _ := newMem(t, 1, 0, "0110")
	one := newPair(t, 0)
	one.Finish(m)
	two := newPair(t, 0)
	for done := false; !done; done = two.Step(m) {
		before := trial.Look(m)
		for range 3 {
			if !one.F.Ready(m) {
				t.Fatal("it isn't ready")
			}
			one.F.Step(m)
		}
		one.Tells("behind the end")
		before.Check(t, m, "behind the end")
	}
}

// The document's example: of an empty table of one bucket and one worker, two buckets, empty.
func TestExample(t *testing.T) {
	m, _ := mem.New(1, 1)
	g := New(0)
	if _, done := mem.Finish(m, g, 99); !done || g.Err() != api.OK || m.Now().N != 2 || len(m.Chain(0)) != 0 || len(m.Chain(1)) != 0 {
		t.Fatalf("%v, Err = %v, the table is %v, these are reached: %v", done, g.Err(), m.Now(), m.Reach())
	}
}
