package walk

import (
	"fmt"
	"math"
	"slices"
	"testing"

	"quietus/api"
	"quietus/arena"
	"quietus/mem"
	"quietus/trial"
)

// These are written out, so that the tests don't lean on the names that they hold.
const (
	mostWorkers = 8
	mostNodes   = 1024
	// far is how far apart the handles of one place are, from one generation to the next.
	far = 65536
	// sum and key are what most walks look for.
	sum = 7
	key = "k"
)

// A walk is a frame.
var _ mem.Frame = (*Walk)(nil)

// newMem is a memory of 4 buckets, with a counter that isn't 0, one that waits, and all locks held, so that it is to be seen if they are touched, and that no walk waits for them.
func newMem(t *testing.T, room, workers int) *mem.Mem {
	t.Helper()
	m, e := mem.New(room, workers)
	if m == nil || e != api.OK {
		t.Fatalf("mem.New(%d, %d) = %v, %v", room, workers, m, e)
	}
	i, e := m.Table(4)
	if e != api.OK {
		t.Fatalf("Table(4) = %d, %v", i, e)
	}
	m.Cells.Store(mem.Current, uint64(i))
	m.Cells.Store(mem.Counter(workers-1), 1)
	m.Retire(far)
	for lock := range m.Locks.Len() {
		m.Locks.Try(lock, lock)
	}
	return m
}

// cellOf is a bucket's cell.
func cellOf(m *mem.Mem, bucket int) int { return m.Now().Base + bucket }

// others are so many nodes that no walk of these tests looks for.
func others(n int) []arena.Node {
	var l []arena.Node
	for i := range n {
		l = append(l, arena.Node{Key: fmt.Sprint("o", i), Val: fmt.Sprint("v", i), Sum: uint32(i)})
	}
	return l
}

// told is what a walk tells; found is 0, if nothing was found.
type told struct {
	first, prev, found arena.Handle
	node               arena.Node
	read               int
}

// tell is what a walk tells.
func tell(t *testing.T, w *Walk, what string) told {
	t.Helper()
	h, node, ok := w.Found()
	if ok != (h != 0) {
		t.Fatalf("%s: Found = %d, %v, %v", what, h, node, ok)
	}
	return told{first: w.First(), prev: w.Prev(), found: h, node: node, read: w.Read()}
}

// checkTold says whether a walk tells this, however often it is asked.
func checkTold(t *testing.T, w *Walk, want told, what string) {
	t.Helper()
	for range 2 {
		if is := tell(t, w, what); is != want {
			t.Fatalf("%s: it tells %v, not %v", what, is, want)
		}
	}
}

// steps are the steps of one walk, each of which is looked at, and what it has to tell.
type steps struct {
	t    *testing.T
	m    *mem.Mem
	w    *Walk
	want told
}

// newSteps is a walk that took no step, by which nothing is changed, and which tells nothing.
func newSteps(t *testing.T, m *mem.Mem, cell int, sum uint32, key string) *steps {
	t.Helper()
	before := trial.Look(m)
	s := &steps{t: t, m: m, w: New(cell, sum, key)}
	before.Check(t, m, "New")
	s.tells("New")
	return s
}

// tells says whether the walk tells what it has to, by which nothing is changed.
func (s *steps) tells(what string) {
	s.t.Helper()
	before := trial.Look(s.m)
	checkTold(s.t, s.w, s.want, what)
	before.Check(s.t, s.m, what+", told")
}

// take takes a step by which nothing is changed but that the flag may come to be up, and the walk is done, or not.
func (s *steps) take(done, fault bool, what string) {
	s.t.Helper()
	want := trial.Look(s.m)
	s.w.Ready(s.m)
	want.Check(s.t, s.m, what+", Ready")
	want.Fault = want.Fault || fault
	trial.Step(s.t, s.m, s.w, done, what)
	want.Check(s.t, s.m, what)
	s.tells(what)
}

// load takes the first step, which loads this handle: of 0 the walk is done.
func (s *steps) load(h arena.Handle) {
	s.t.Helper()
	s.want.first = h
	s.take(h == 0, false, "the first step")
}

// pass takes a step that reads the node of this handle, which isn't the one, and by which the walk is done, if it is the last one.
func (s *steps) pass(h arena.Handle, last bool) {
	s.t.Helper()
	s.want.prev = h
	s.want.read++
	s.take(last, false, fmt.Sprintf("a step that reads %d", h))
}

// find takes a step that finds this node.
func (s *steps) find(h arena.Handle, node arena.Node) {
	s.t.Helper()
	s.want.found, s.want.node = h, node
	s.want.read++
	s.take(true, false, fmt.Sprintf("a step that finds %d", h))
}

// fail takes a step that finds a handle stale.
func (s *steps) fail() {
	s.t.Helper()
	s.take(true, true, "a step at a stale handle")
}

// passAll takes steps that read these nodes, of which none is the one, and by the last of which the walk is done.
func (s *steps) passAll(l []arena.Handle) {
	s.t.Helper()
	for i, h := range l {
		s.pass(h, i == len(l)-1)
	}
}

// passSome takes steps that read these nodes, of which none is the one, nor the last one.
func (s *steps) passSome(l []arena.Handle) {
	s.t.Helper()
	for _, h := range l {
		s.pass(h, false)
	}
}

// P9.2: an empty chain is one step, by which nothing is found, of whatever bucket and memory.
func TestEmpty(t *testing.T) {
	for workers := 1; workers <= mostWorkers; workers++ {
		m := newMem(t, 2, workers)
		for bucket := range 4 {
			newSteps(t, m, cellOf(m, bucket), sum, key).load(0)
			newSteps(t, m, cellOf(m, bucket), 0, "").load(0)
		}
	}
}

// P9.1, P9.2: of a chain of one node, and of many, with the key at each place, each step does what the chapter says, changes nothing, and the walk tells so ahead of it, between the steps, and behind the last one.
func TestEachPlace(t *testing.T) {
	for n := 1; n <= 9; n++ {
		for place := range n {
			m := newMem(t, n, 2)
			nodes := others(n)
			nodes[place] = arena.Node{Key: key, Val: "here", Sum: sum}
			l := trial.Lay(t, m, cellOf(m, 1), nodes...)
			if place < n-1 {
				nodes[place].Next = l[place+1]
			}
			s := newSteps(t, m, cellOf(m, 1), sum, key)
			s.load(l[0])
			s.passSome(l[:place])
			s.find(l[place], nodes[place])
		}
	}
}

// P9.1, P9.2: of a chain without the key each node is read, and the walk is done by the step that reads the last one.
func TestNotThere(t *testing.T) {
	for n := 1; n <= 9; n++ {
		m := newMem(t, n, 2)
		l := trial.Lay(t, m, cellOf(m, 1), others(n)...)
		s := newSteps(t, m, cellOf(m, 1), sum, key)
		s.load(l[0])
		s.passAll(l)
	}
}

// P9.2: so many steps they are of the longest chain, too.
func TestHowMany(t *testing.T) {
	nodes := others(mostNodes)
	for _, n := range []int{0, 1, 2, 3, 100, mostNodes - 1, mostNodes} {
		m := newMem(t, mostNodes, 2)
		l := append(trial.Lay(t, m, cellOf(m, 3), nodes[:n]...), 0)
		w := New(cellOf(m, 3), sum, key)
		trial.Finish(t, m, w, n+1, "the key isn't there")
		want := told{first: l[0], read: n}
		if n > 0 {
			want.prev = l[n-1]
		}
		checkTold(t, w, want, "the key isn't there")
		for place := range n {
			w := New(cellOf(m, 3), nodes[place].Sum, nodes[place].Key)
			trial.Finish(t, m, w, place+2, "the key is there")
			want := told{first: l[0], found: l[place], node: nodes[place], read: place + 1}
			want.node.Next = l[place+1]
			if place > 0 {
				want.prev = l[place-1]
			}
			checkTold(t, w, want, "the key is there")
		}
	}
}

// P9.2: what is found is the first node that has both the Sum and the Key.
func TestWhich(t *testing.T) {
	yes := arena.Node{Key: key, Sum: sum, Val: "first"}
	again := arena.Node{Key: key, Sum: sum, Val: "second"}
	otherKey := arena.Node{Key: "l", Sum: sum, Val: "other key"}
	otherSum := arena.Node{Key: key, Sum: sum + 1, Val: "other sum"}
	otherBoth := arena.Node{Key: "l", Sum: sum + 1, Val: "other both"}
	val := arena.Node{Key: "l", Sum: sum, Val: key}
	empty := arena.Node{Sum: sum}
	cases := []struct {
		nodes []arena.Node
		place int
	}{
		{[]arena.Node{yes}, 0},
		{[]arena.Node{otherKey}, -1},
		{[]arena.Node{otherSum}, -1},
		{[]arena.Node{otherBoth}, -1},
		{[]arena.Node{val}, -1},
		{[]arena.Node{empty}, -1},
		{[]arena.Node{{}}, -1},
		{[]arena.Node{otherKey, otherSum}, -1},
		{[]arena.Node{otherSum, otherKey}, -1},
		{[]arena.Node{otherKey, otherSum, yes}, 2},
		{[]arena.Node{otherSum, yes, otherKey}, 1},
		{[]arena.Node{yes, otherSum, otherKey}, 0},
		{[]arena.Node{yes, again}, 0},
		{[]arena.Node{again, yes}, 0},
		{[]arena.Node{yes, yes, yes}, 0},
		{[]arena.Node{otherKey, again, otherSum, yes}, 1},
		{[]arena.Node{val, empty, otherBoth, otherSum, {}, otherKey, yes, again}, 6},
		{[]arena.Node{val, empty, otherBoth, otherSum, {}, otherKey}, -1},
	}
	for _, c := range cases {
		m := newMem(t, 9, 2)
		l := trial.Lay(t, m, cellOf(m, 0), c.nodes...)
		s := newSteps(t, m, cellOf(m, 0), sum, key)
		s.load(l[0])
		if c.place < 0 {
			s.passAll(l)
			continue
		}
		s.passSome(l[:c.place])
		node, _ := m.Arena.Read(l[c.place])
		s.find(l[c.place], node)
	}
}

// sums are sums of all kinds, and such whose low bits, or high ones, are the same.
func sums() []uint32 {
	return []uint32{0, 1, sum, sum + 1<<8, sum + 1<<16, sum + 1<<24, 1<<31 + sum, 1<<16 - 1, 1 << 16, 1<<31 - 1, 1 << 31, math.MaxUint32 - 1, math.MaxUint32}
}

// P9.1, P9.2: whatever the key and the sum are, no matter whether the one is that of the other, just the node that has both is found, among nodes of all others.
func TestKeysAndSums(t *testing.T) {
	m := newMem(t, mostNodes, 2)
	var nodes []arena.Node
	for _, key := range trial.Keys() {
		for _, sum := range sums() {
			nodes = append(nodes, arena.Node{Key: key, Sum: sum, Val: fmt.Sprint(len(nodes))})
		}
	}
	l := append(trial.Lay(t, m, cellOf(m, 2), nodes...), 0)
	for i, n := range nodes {
		w := New(cellOf(m, 2), n.Sum, n.Key)
		trial.Finish(t, m, w, i+2, "a walk")
		n.Next = l[i+1]
		if h, node, ok := w.Found(); h != l[i] || node != n || !ok {
			t.Fatalf("Found = %d, %v, %v, not %d, %v", h, node, ok, l[i], n)
		}
	}
	for _, sum := range sums() {
		trial.Finish(t, m, New(cellOf(m, 2), sum, "none"), len(nodes)+1, "a key that there isn't")
	}
	for _, key := range trial.Keys() {
		trial.Finish(t, m, New(cellOf(m, 2), 12345, key), len(nodes)+1, "a sum that there isn't")
	}
}

// P9.1: what is read of a node isn't told, if it isn't the one: Found is zero, whatever Prev's node was.
func TestNothingBesideFalse(t *testing.T) {
	m := newMem(t, 3, 2)
	l := trial.Lay(t, m, cellOf(m, 0), arena.Node{Key: key, Sum: 1, Val: "v"}, arena.Node{Key: "l", Sum: sum, Val: "w"})
	w := New(cellOf(m, 0), sum, key)
	for i := range 4 {
		if h, node, ok := w.Found(); h != 0 || node != (arena.Node{}) || ok {
			t.Fatalf("behind %d steps: Found = %d, %v, %v", i, h, node, ok)
		}
		if i < 3 {
			trial.Step(t, m, w, i == 2, "a step")
		}
	}
	if w.Prev() != l[1] {
		t.Fatalf("Prev = %d", w.Prev())
	}
}

// P9.1: a walk is from its own cell, of each bucket another chain.
func TestOwnCell(t *testing.T) {
	m := newMem(t, 12, 2)
	var chains [][]arena.Handle
	for bucket := range 4 {
		nodes := others(bucket)
		nodes = append(nodes, arena.Node{Key: key, Sum: sum, Val: fmt.Sprint(bucket)})
		chains = append(chains, trial.Lay(t, m, cellOf(m, bucket), nodes[:len(nodes)-bucket%2]...))
	}
	for bucket, l := range chains {
		s := newSteps(t, m, cellOf(m, bucket), sum, key)
		l = append(l, 0)
		s.load(l[0])
		if bucket%2 == 1 {
			s.passAll(l[:len(l)-1])
			continue
		}
		s.passSome(l[:len(l)-2])
		s.find(l[len(l)-2], arena.Node{Key: key, Sum: sum, Val: fmt.Sprint(bucket)})
	}
}

// P9.1: any cell will do, a bucket's of whatever table, or another one: what is looked at is its word alone.
func TestAnyCell(t *testing.T) {
	m := newMem(t, 3, 3)
	yes := arena.Node{Key: key, Sum: sum, Val: "v"}
	l := trial.Lay(t, m, cellOf(m, 0), others(1)[0], yes)
	trial.Put(t, m, cellOf(m, 0), 0)
	for cell := range m.Cells.Len() {
		word, _ := m.Cells.Load(cell)
		trial.Put(t, m, cell, l[0])
		s := newSteps(t, m, cell, sum, key)
		s.load(l[0])
		s.pass(l[0], false)
		s.find(l[1], yes)
		m.Cells.Store(cell, word)
	}
}

// noCells are numbers of cells that a memory doesn't have.
func noCells(m *mem.Mem) []int {
	n := m.Cells.Len()
	l := []int{n, n + 1, 2 * n, api.MaxCells - 1, api.MaxCells, api.MaxCells + 1}
	for _, number := range trial.NotWorkers() {
		if number < 0 || number > n {
			l = append(l, number)
		}
	}
	return l
}

// R1: from a cell that there isn't, below 0 or beyond the last one, nothing is loaded: it is one step, by which nothing is found, and the flag stays down.
func TestNoCell(t *testing.T) {
	m := newMem(t, 3, 2)
	h := trial.Alloc(t, m, arena.Node{Key: key, Sum: sum})
	for cell := range m.Cells.Len() {
		trial.Put(t, m, cell, h)
	}
	for _, cell := range noCells(m) {
		newSteps(t, m, cell, sum, key).load(0)
	}
}

// P9.1: the cell is loaded by the first step, not ahead of it, even one that comes to be ahead of that.
func TestLoadsLate(t *testing.T) {
	m := newMem(t, 3, 2)
	yes := arena.Node{Key: key, Sum: sum, Val: "v"}
	elder := trial.Lay(t, m, cellOf(m, 0), others(1)...)
	s := newSteps(t, m, cellOf(m, 0), sum, key)
	s.w.Ready(m)
	l := trial.Lay(t, m, cellOf(m, 0), yes)
	trial.Free(t, m, elder[0])
	s.load(l[0])
	s.find(l[0], yes)

	s = newSteps(t, m, m.Cells.Len(), sum, key)
	first, _ := m.Cells.Grow(1)
	trial.Put(t, m, first, l[0])
	s.load(l[0])
	s.find(l[0], yes)
}

// P9.1: it is loaded once: a word that comes into the cell behind the first step doesn't matter, First is what was loaded.
func TestLoadsOnce(t *testing.T) {
	for _, word := range trial.Words() {
		m := newMem(t, 9, 2)
		yes := arena.Node{Key: key, Sum: sum, Val: "v"}
		l := trial.Lay(t, m, cellOf(m, 0), append(others(2), yes)...)
		s := newSteps(t, m, cellOf(m, 0), sum, key)
		s.load(l[0])
		for i, h := range l[:2] {
			m.Cells.Store(cellOf(m, 0), word+uint64(i))
			s.tells("behind a Store")
			s.pass(h, false)
		}
		m.Cells.Store(cellOf(m, 0), word)
		s.find(l[2], yes)
		m.Cells.Store(cellOf(m, 0), word+1)
		s.tells("behind the last step")
	}
}

// P9.1: of a chain that is empty as it is loaded nothing is found, though a node comes behind that.
func TestEmptyThenNot(t *testing.T) {
	m := newMem(t, 1, 2)
	s := newSteps(t, m, cellOf(m, 0), sum, key)
	s.load(0)
	trial.Lay(t, m, cellOf(m, 0), arena.Node{Key: key, Sum: sum})
	s.tells("behind the last step")
}

// P9.1: a word that is no node's handle is what was loaded; by the step that would read its node the walk is done, nothing is found, and the flag is up.
func TestNoHandle(t *testing.T) {
	for _, word := range trial.Words() {
		m := newMem(t, 3, 2)
		trial.Lay(t, m, cellOf(m, 1), arena.Node{Key: key, Sum: sum}, arena.Node{})
		h := arena.Handle(word)
		if h == 0 || m.Arena.Live(h) {
			continue
		}
		m.Cells.Store(cellOf(m, 0), word)
		s := newSteps(t, m, cellOf(m, 0), sum, key)
		s.load(h)
		s.fail()
	}
}

// P9.1: so it is with a Next that is no node's handle, behind each node of a chain; what was read is told.
func TestNoHandleBehind(t *testing.T) {
	for _, word := range trial.Words() {
		for n := 1; n <= 3; n++ {
			m := newMem(t, 4, 2)
			l := trial.Lay(t, m, cellOf(m, 1), others(n)...)
			h := arena.Handle(word)
			if h == 0 || m.Arena.Live(h) {
				continue
			}
			trial.Link(t, m, l[n-1], h)
			s := newSteps(t, m, cellOf(m, 1), sum, key)
			s.load(l[0])
			s.passSome(l)
			s.fail()
		}
	}
}

// P9.1: a Next that is no node's handle doesn't matter, if the node that has it is the one, or isn't reached.
func TestNoHandleNotUsed(t *testing.T) {
	for _, word := range trial.Words() {
		m := newMem(t, 4, 2)
		yes := arena.Node{Key: key, Sum: sum, Next: arena.Handle(word)}
		l := trial.Lay(t, m, cellOf(m, 0), others(1)[0], yes, others(2)[1])
		trial.Link(t, m, l[1], yes.Next)
		s := newSteps(t, m, cellOf(m, 0), sum, key)
		s.load(l[0])
		s.pass(l[0], false)
		s.find(l[1], yes)
	}
}

// P9.1: a stale handle in the cell can't be read, whether its place is free, or taken again, by a node of that Sum and Key, too.
func TestStaleInCell(t *testing.T) {
	for _, again := range []bool{false, true} {
		for _, n := range append(others(1), arena.Node{Key: key, Sum: sum}) {
			m := newMem(t, 2, 2)
			l := trial.Lay(t, m, cellOf(m, 0), n)
			trial.Free(t, m, l[0])
			if again {
				trial.Alloc(t, m, arena.Node{Key: key, Sum: sum})
			}
			s := newSteps(t, m, cellOf(m, 0), sum, key)
			s.load(l[0])
			s.fail()
		}
	}
}

// P9.1: a handle of a generation that is yet to come can't be read either; once its place is taken again by it, it can.
func TestYetToCome(t *testing.T) {
	m := newMem(t, 2, 2)
	l := trial.Lay(t, m, cellOf(m, 0), others(1)...)
	trial.Put(t, m, cellOf(m, 0), l[0]+far)
	s := newSteps(t, m, cellOf(m, 0), sum, key)
	s.load(l[0] + far)
	s.fail()
	s = newSteps(t, m, cellOf(m, 0), sum, key)
	s.load(l[0] + far)
	trial.Free(t, m, l[0])
	yes := arena.Node{Key: key, Sum: sum}
	s.find(trial.Alloc(t, m, yes), yes)
}

// P9.1: a node that the walk stands ahead of, and that is freed, its place taken again or not, by whatever node: it is done by the next step, nothing is found, the flag is up; what was read stays told.
func TestFreedAhead(t *testing.T) {
	yes := arena.Node{Key: key, Val: "v", Sum: sum}
	for place := range 4 {
		for _, again := range []*arena.Node{nil, &yes, {Key: "other"}, {}} {
			m := newMem(t, 6, 2)
			nodes := append(others(4), yes)
			l := trial.Lay(t, m, cellOf(m, 0), nodes...)
			s := newSteps(t, m, cellOf(m, 0), sum, key)
			s.load(l[0])
			s.passSome(l[:place])
			trial.Free(t, m, l[place])
			if again != nil {
				trial.Alloc(t, m, *again)
			}
			s.tells("behind Free")
			s.fail()
		}
	}
}

// P9.1: the same, if the one that is looked for is what is freed, though it was linked past ahead of that.
func TestFreedAheadTheOne(t *testing.T) {
	for _, past := range []bool{false, true} {
		for _, again := range []bool{false, true} {
			m := newMem(t, 4, 2)
			yes := arena.Node{Key: key, Val: "v", Sum: sum}
			l := trial.Lay(t, m, cellOf(m, 0), others(1)[0], yes, others(2)[1])
			s := newSteps(t, m, cellOf(m, 0), sum, key)
			s.load(l[0])
			s.pass(l[0], false)
			if past {
				trial.Link(t, m, l[0], l[2])
			}
			trial.Free(t, m, l[1])
			if again {
				trial.Alloc(t, m, yes)
			}
			s.fail()
		}
	}
}

// P9.1: a node that is freed behind its being read doesn't matter: the walk goes on with the Next that it had.
func TestFreedBehind(t *testing.T) {
	for _, again := range []bool{false, true} {
		m := newMem(t, 5, 2)
		yes := arena.Node{Key: key, Val: "v", Sum: sum}
		l := trial.Lay(t, m, cellOf(m, 0), append(others(3), yes)...)
		s := newSteps(t, m, cellOf(m, 0), sum, key)
		s.load(l[0])
		for _, h := range l[:3] {
			s.pass(h, false)
			trial.Free(t, m, h)
			if again {
				trial.Alloc(t, m, arena.Node{Key: key, Sum: sum})
			}
			s.tells("behind Free")
		}
		s.find(l[3], yes)
	}
}

// P9.1: with the flag up from the beginning on a walk goes as ever.
func TestFlagUp(t *testing.T) {
	m := newMem(t, 3, 2)
	m.Arena.Read(0)
	yes := arena.Node{Key: key, Val: "v", Sum: sum}
	l := trial.Lay(t, m, cellOf(m, 0), others(1)[0], yes)
	s := newSteps(t, m, cellOf(m, 0), sum, key)
	s.load(l[0])
	s.pass(l[0], false)
	s.find(l[1], yes)
	newSteps(t, m, cellOf(m, 3), sum, key).load(0)
}

// P9.1: what Found tells is the node as it was read, with the Next that it had then, though it is linked or freed later, and its place taken again; so does Prev tell the handle that it was, and First.
func TestFoundAsRead(t *testing.T) {
	m := newMem(t, 4, 2)
	yes := arena.Node{Key: key, Val: "v", Sum: sum}
	l := trial.Lay(t, m, cellOf(m, 0), others(1)[0], yes, others(2)[1])
	yes.Next = l[2]
	s := newSteps(t, m, cellOf(m, 0), sum, key)
	s.load(l[0])
	s.pass(l[0], false)
	s.find(l[1], yes)
	trial.Link(t, m, l[1], l[0])
	s.tells("linked")
	trial.Link(t, m, l[0], l[2])
	s.tells("linked past")
	trial.Free(t, m, l[1])
	s.tells("freed")
	trial.Alloc(t, m, arena.Node{Key: key, Val: "w", Sum: sum})
	s.tells("its place taken again")
	trial.Put(t, m, cellOf(m, 0), 0)
	trial.Free(t, m, l[0])
	trial.Free(t, m, l[2])
	s.tells("all freed")
}

// P9.1: the node is read by the step, as it is then: a Next, or a whole node, that was another one ahead of that doesn't matter.
func TestReadsLate(t *testing.T) {
	m := newMem(t, 4, 2)
	yes := arena.Node{Key: key, Val: "v", Sum: sum}
	l := trial.Lay(t, m, cellOf(m, 0), others(2)[0], others(2)[1], yes)
	s := newSteps(t, m, cellOf(m, 0), sum, key)
	s.load(l[0])
	trial.Link(t, m, l[0], l[2])
	s.pass(l[0], false)
	yes.Next = 99
	trial.Link(t, m, l[2], 99)
	s.find(l[2], yes)
}

// P9.1: a node that was linked past ahead of being read, and isn't freed: if the walk stands ahead of it, it goes on from it, else it isn't read any more; one that was read stays so.
func TestLinkedPast(t *testing.T) {
	const n = 5
	for behind := range n + 1 {
		for place := range n {
			m := newMem(t, n, 2)
			l := trial.Lay(t, m, cellOf(m, 0), others(n)...)
			s := newSteps(t, m, cellOf(m, 0), sum, key)
			want := slices.Clone(l)
			if behind > 0 {
				s.load(l[0])
				s.passSome(l[:behind-1])
			}
			next := append(slices.Clone(l), 0)[place+1]
			trial.Join(t, m, cellOf(m, 0), l, place, next)
			if place >= behind {
				want = slices.Delete(want, place, place+1)
			}
			s.tells("linked past")
			if behind == 0 {
				s.load(want[0])
			}
			s.passAll(want[max(behind-1, 0):])
		}
	}
}

// P9.1: one that was linked past is found yet, if the walk stands ahead of it; what comes to be linked behind it is seen from it.
func TestLinkedPastTheOne(t *testing.T) {
	m := newMem(t, 4, 2)
	yes := arena.Node{Key: key, Val: "v", Sum: sum}
	l := trial.Lay(t, m, cellOf(m, 0), yes, others(1)[0])
	s, o := newSteps(t, m, cellOf(m, 0), sum, key), newSteps(t, m, cellOf(m, 0), sum, "none")
	s.load(l[0])
	o.load(l[0])
	trial.Put(t, m, cellOf(m, 0), l[1])
	more := trial.Alloc(t, m, arena.Node{Key: "more"})
	trial.Link(t, m, l[0], more)
	yes.Next = more
	s.find(l[0], yes)
	o.pass(l[0], false)
	o.pass(more, true)
}

// P9.1: a node that is put in where the walk has been already isn't read; one that is put in where it is yet to come is.
func TestPutIn(t *testing.T) {
	const n = 4
	yes := arena.Node{Key: key, Val: "v", Sum: sum}
	for behind := range n + 1 {
		for place := range n + 1 {
			m := newMem(t, n+1, 2)
			l := append(trial.Lay(t, m, cellOf(m, 0), others(n)...), 0)
			s := newSteps(t, m, cellOf(m, 0), sum, key)
			if behind > 0 {
				s.load(l[0])
				s.passSome(l[:behind-1])
			}
			in := yes
			in.Next = l[place]
			h := trial.Alloc(t, m, in)
			trial.Join(t, m, cellOf(m, 0), l, place, h)
			s.tells("put in")
			if place < behind {
				s.passAll(l[behind-1 : n])
				continue
			}
			if behind == 0 {
				s.load(append([]arena.Handle{h}, l...)[min(place, 1)])
			}
			s.passSome(l[max(behind-1, 0):place])
			s.find(h, in)
		}
	}
}

// P9.1: a node that is put in place of the one that is looked for, which the walk stands ahead of, isn't found: the elder one is.
func TestPutInPlace(t *testing.T) {
	m := newMem(t, 3, 2)
	elder, newer := arena.Node{Key: key, Val: "elder", Sum: sum}, arena.Node{Key: key, Val: "newer", Sum: sum}
	l := trial.Lay(t, m, cellOf(m, 0), others(1)[0], elder)
	s, o := newSteps(t, m, cellOf(m, 0), sum, key), newSteps(t, m, cellOf(m, 0), sum, key)
	s.load(l[0])
	o.load(l[0])
	s.pass(l[0], false)
	h := trial.Alloc(t, m, newer)
	trial.Link(t, m, l[0], h)
	s.find(l[1], elder)
	o.pass(l[0], false)
	o.find(h, newer)
}

// R1: of a chain that comes back, to whichever node, steps can be taken on and on, each of which ends, and reads a node.
func TestRound(t *testing.T) {
	const n, most = 4, 5000
	for back := range n {
		m := newMem(t, n, 2)
		l := trial.Lay(t, m, cellOf(m, 0), others(n)...)
		trial.Link(t, m, l[n-1], l[back])
		w := New(cellOf(m, 0), sum, key)
		before := trial.Look(m)
		trial.Step(t, m, w, false, "the first step")
		place := 0
		for i := range most {
			trial.Step(t, m, w, false, "a step of a round")
			checkTold(t, w, told{first: l[0], prev: l[place], read: i + 1}, "a step of a round")
			if place++; place == n {
				place = back
			}
		}
		before.Check(t, m, "a round")
		if steps, done := mem.Finish(m, w, most); steps != most || done {
			t.Fatalf("Finish = %d, %v", steps, done)
		}
	}
}

// P9.1: once the round is cut, or the one is put into it, the walk comes to its end.
func TestRoundCut(t *testing.T) {
	for _, cut := range []bool{false, true} {
		m := newMem(t, 3, 2)
		l := trial.Lay(t, m, cellOf(m, 0), others(2)...)
		trial.Link(t, m, l[1], l[0])
		s := newSteps(t, m, cellOf(m, 0), sum, key)
		s.load(l[0])
		for range 9 {
			s.passSome(l)
		}
		if cut {
			trial.Link(t, m, l[1], 0)
			s.passAll(l)
			continue
		}
		yes := arena.Node{Key: key, Sum: sum, Next: l[0]}
		h := trial.Alloc(t, m, yes)
		trial.Link(t, m, l[1], h)
		s.passSome(l)
		s.find(h, yes)
	}
}

// P9.2: a round doesn't matter, if the one stands ahead of its end.
func TestRoundFound(t *testing.T) {
	m := newMem(t, 3, 2)
	yes := arena.Node{Key: key, Sum: sum}
	l := trial.Lay(t, m, cellOf(m, 0), others(1)[0], yes)
	trial.Link(t, m, l[1], l[0])
	yes.Next = l[0]
	s := newSteps(t, m, cellOf(m, 0), sum, key)
	s.load(l[0])
	s.pass(l[0], false)
	s.find(l[1], yes)
}

// P9.1: two walks beside each other, of one chain, for one key or for two, know nothing of each other.
func TestTwoWalks(t *testing.T) {
	m := newMem(t, 4, 2)
	nodes := others(4)
	l := trial.Lay(t, m, cellOf(m, 0), nodes...)
	for _, other := range []int{0, 2, 3} {
		one := newSteps(t, m, cellOf(m, 0), nodes[2].Sum, nodes[2].Key)
		two := newSteps(t, m, cellOf(m, 0), nodes[other].Sum, nodes[other].Key)
		one.load(l[0])
		one.pass(l[0], false)
		two.tells("behind the other one's steps")
		two.load(l[0])
		two.passSome(l[:other])
		node, _ := m.Arena.Read(l[other])
		two.find(l[other], node)
		one.tells("behind the other one's steps")
		one.pass(l[1], false)
		node, _ = m.Arena.Read(l[2])
		one.find(l[2], node)
		two.tells("behind the other one's end")
	}
}

// R3: walks of two memories know nothing of each other, though their cells and handles are the same.
func TestTwoMemories(t *testing.T) {
	m, o := newMem(t, 3, 2), newMem(t, 3, 2)
	yes := arena.Node{Key: key, Val: "v", Sum: sum}
	l := trial.Lay(t, m, cellOf(m, 0), others(1)[0], yes)
	k := trial.Lay(t, o, cellOf(o, 0), others(2)...)
	one, two := newSteps(t, m, cellOf(m, 0), sum, key), newSteps(t, o, cellOf(o, 0), sum, key)
	one.load(l[0])
	two.load(k[0])
	two.pass(k[0], false)
	one.pass(l[0], false)
	trial.Free(t, o, k[1])
	one.find(l[1], yes)
	two.fail()
	if m.Arena.Fault() {
		t.Error("the flag of the other one is up")
	}
}

// R1: steps behind the last one don't panic, and change nothing; the walk is ready as ever.
func TestStepBehindEnd(t *testing.T) {
	m := newMem(t, 6, 2)
	yes := arena.Node{Key: key, Val: "v", Sum: sum}
	l := trial.Lay(t, m, cellOf(m, 0), others(1)[0], yes, others(2)[1])
	trial.Lay(t, m, cellOf(m, 1), others(2)...)
	trial.Put(t, m, cellOf(m, 3), far)
	for bucket := range 4 {
		w := New(cellOf(m, bucket), sum, key)
		mem.Finish(m, w, 99)
		if _, _, ok := w.Found(); ok {
			trial.Link(t, m, l[1], l[0])
		}
		before, is := trial.Look(m), tell(t, w, "behind the end")
		for range 9 {
			if !w.Ready(m) {
				t.Fatal("it isn't ready")
			}
			w.Step(m)
		}
		before.Check(t, m, "behind the end")
		checkTold(t, w, is, "behind the end")
	}
}

// The document's example: of an empty bucket it is one step, and nothing is found.
func TestExample(t *testing.T) {
	m, _ := mem.New(2, 2)
	w := New(4, sum, key)
	if n, done := mem.Finish(m, w, 99); n != 1 || !done {
		t.Fatalf("Finish = %d, %v", n, done)
	}
	if h, n, ok := w.Found(); h != 0 || n != (arena.Node{}) || ok {
		t.Fatalf("Found = %d, %v, %v", h, n, ok)
	}
}
