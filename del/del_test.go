package del

import (
	"fmt"
	"slices"
	"testing"

	"quietus/api"
	"quietus/arena"
	"quietus/fnv"
	"quietus/get"
	"quietus/mem"
	"quietus/put"
	"quietus/retire"
	"quietus/trial"
)

// These are written out, so that the tests don't lean on the names that they hold.
const (
	mostWorkers  = 8
	mostNodes    = 1024
	mostBuckets  = 65536
	currentCell  = 1
	firstCounter = 2
	firstWriter  = 1
	lastWriter   = 4
	// far is how far apart the handles of one place are, from one generation to the next.
	far = 65536
	// somebody is the number of one who has locks that no del of a worker's has.
	somebody = 1000
	// begun is how many steps a del takes ahead of the first node: three of holding the bucket, one that loads its cell.
	begun = 4
	// missing is how many steps a del of a key that isn't there takes beside those that read a node; leaving, of a key that is there.
	missing = 5
	leaving = 7
	// key and val are of what most dels take out.
	key = "k"
	val = "v"
)

// A del is a frame.
var _ mem.Frame = (*Del)(nil)

// yes is the node that most dels take out.
func yes() arena.Node { return trial.NewNode(key, val) }

// chain are so many nodes of a bucket of n, with that one at a place; without it, if that is below 0.
func chain(n, length, place int) []arena.Node { return trial.ChainOf(n, yes(), length, place) }

// without is a chain without what stands at a place; as it is, if that is below 0.
func without(l []arena.Handle, place int) []arena.Handle {
	if place < 0 {
		return l
	}
	return slices.Concat(l[:place], l[place+1:])
}

// told is what a del tells.
type told struct {
	val  string
	had  bool
	mine arena.Handle
}

// checkTold says whether a del tells this, however often it is asked.
func checkTold(t *testing.T, d *Del, want told, what string) {
	t.Helper()
	for range 2 {
		val, had := d.Had()
		if is := (told{val, had, d.Mine()}); is != want {
			t.Fatalf("%s: it tells %v, not %v", what, is, want)
		}
	}
}

// steps are the steps of one del, each of which is looked at, and what it has to tell.
type steps struct {
	*trial.Steps
	d *Del
	// found is what was found, and next what it went on with then.
	found, next arena.Handle
	want        told
}

// newSteps is a del that took no step, by which nothing is changed, and which tells nothing.
func newSteps(t *testing.T, m *mem.Mem, worker int, key string) *steps {
	t.Helper()
	s := &steps{}
	made := func() mem.Frame {
		s.d = New(worker, key)
		return s.d
	}
	s.Steps = trial.NewSteps(t, m, worker, key, made, func(what string) {
		t.Helper()
		checkTold(t, s.d, s.want, what)
	})
	return s
}

// newYes is a del of the key that most dels are of.
func newYes(t *testing.T, m *mem.Mem) *steps {
	t.Helper()
	return newSteps(t, m, 0, key)
}

// find takes a step that reads the node of the key.
func (s *steps) find(h arena.Handle) {
	s.T.Helper()
	node, _ := trial.Look(s.M).Node(h)
	s.found, s.next = h, node.Next
	s.want.val, s.want.had = node.Val, true
	s.Still("a step that finds a node")
}

// passOver takes a step by which what comes behind the node comes behind this one, or, if that is 0, is the first one.
func (s *steps) passOver(ahead arena.Handle) {
	s.T.Helper()
	s.want.mine = s.found
	s.Lead(ahead, s.next)
}

// wait takes a step by which the node comes to wait.
func (s *steps) wait() {
	s.T.Helper()
	s.want.mine = 0
	s.Wait(s.found)
}

// leaves takes the steps of a del that found its node, which stands behind this one, that aren't yet taken.
func (s *steps) leaves(ahead arena.Handle) {
	s.T.Helper()
	s.passOver(ahead)
	s.wait()
	s.Drop()
}

// goesAlong takes the steps of a del that is ahead of a chain that aren't yet taken, and says the chain behind that: the key is at this place of it, or not there, if that is below 0.
func (s *steps) goesAlong(l []arena.Handle, place int) []arena.Handle {
	s.T.Helper()
	if place < 0 {
		s.Pass(len(l))
		s.Drop()
		return l
	}
	s.Pass(place)
	s.find(l[place])
	s.leaves(trial.At(l, place-1))
	return without(l, place)
}

// dels takes all steps of a del of a key that is at this place of a chain, or not there, if that is below 0, and says the chain behind that.
func (s *steps) dels(l []arena.Handle, place int) []arena.Handle {
	s.T.Helper()
	s.Begin()
	return s.goesAlong(l, place)
}

// P12.1, P12.2: a key that is there is taken out of a chain of one and many, at the beginning, in the middle and at the end; it alone comes to wait, isn't freed, and has the Next that it had; of a key that isn't there, of a chain of none, one and many, nothing is passed over, and nothing waits. Each step does what the chapter says, and nothing else, and the del tells so ahead of it, between the steps, and behind the last one.
func TestEachPlace(t *testing.T) {
	for _, n := range []int{1, 8} {
		trial.EachChain(func(length, place int) {
			m := trial.Busy(t, length+1, 2, n)
			nodes := chain(n, length, place)
			l := trial.Lay(t, m, trial.CellOf(m, key), nodes...)
			before := trial.Look(m)
			trial.CheckChain(t, m, key, newYes(t, m).dels(l, place), "a del")
			if place < 0 {
				before.Check(t, m, "nothing was found")
			}
			for i, node := range nodes {
				val, had := trial.ValOf(m, node.Key)
				if had != (i != place) || had && val != node.Val {
					t.Fatalf("of %d nodes, at %d, the key %q has %q, %v", length, place, node.Key, val, had)
				}
				if is, _ := m.Arena.Read(l[i]); is.Val != node.Val || i == place && is.Next != trial.At(l, i+1) {
					t.Fatalf("of %d nodes, at %d, the node %d is %v", length, place, i, is)
				}
			}
		})
	}
}

// P12.1, P12.2: of an empty table nothing is found, nothing waits, and nothing is changed, whatever the key is, by any number of workers, and of buckets.
func TestEmpty(t *testing.T) {
	for workers := 1; workers <= mostWorkers; workers++ {
		for worker := range workers {
			for _, n := range []int{1, 2, 4, 64} {
				m := trial.Busy(t, 3, workers, n)
				m.Cells.Store(firstCounter+worker, 0)
				before := trial.Look(m)
				for _, key := range []string{key, "", "another"} {
					newSteps(t, m, worker, key).dels(nil, -1)
				}
				before.Check(t, m, "an empty table")
			}
		}
	}
	newYes(t, trial.Busy(t, 1, 1, mostBuckets)).dels(nil, -1)
}

// P12.1: whatever the worker is, it holds the bucket, and none else: by any number of workers, and of buckets.
func TestWorkers(t *testing.T) {
	for workers := 1; workers <= mostWorkers; workers++ {
		for worker := range workers {
			for _, n := range []int{1, 2, 4, 64} {
				m := trial.Busy(t, 3, workers, n)
				m.Cells.Store(firstCounter+worker, 0)
				l := trial.Lay(t, m, trial.CellOf(m, key), chain(n, 2, 1)...)
				l = newSteps(t, m, worker, key).dels(l, 1)
				newSteps(t, m, worker, key).dels(l, -1)
				trial.CheckChain(t, m, key, l, "two dels")
			}
		}
	}
}

// P12.1: it needs no place: with none free it goes as ever, and takes none.
func TestFull(t *testing.T) {
	trial.EachChain(func(length, place int) {
		m := trial.Busy(t, length+1, 2, 8)
		l := trial.Lay(t, m, trial.CellOf(m, key), chain(8, length, place)...)
		trial.Fill(t, m)
		trial.CheckChain(t, m, key, newYes(t, m).dels(l, place), "no place is free")
	})
}

// P12.1, P12.2: so many steps they are of the longest chain, too.
func TestHowMany(t *testing.T) {
	nodes := trial.Others(key, 2, mostNodes)
	for _, length := range []int{0, 1, 2, 3, 100, mostNodes - 1, mostNodes} {
		m := trial.Busy(t, mostNodes, 1, 2)
		l := trial.Lay(t, m, trial.CellOf(m, key), nodes[:length]...)
		d := New(0, key)
		trial.Finish(t, m, d, missing+length, "the key isn't there")
		checkTold(t, d, told{}, "the key isn't there")
		m.Take()
		for place := length - 1; place >= 0; place -= 1 + place/8 {
			d := New(0, nodes[place].Key)
			trial.Finish(t, m, d, leaving+place+1, "the key is there")
			checkTold(t, d, told{val: nodes[place].Val, had: true}, "the key is there")
			if w := m.Take(); !slices.Equal(w, l[place:place+1]) {
				t.Fatalf("of %v these wait: %v", l[place], w)
			}
			l = without(l, place)
			trial.CheckChain(t, m, key, l, "the key is there")
		}
	}
}

// P12.2: whatever the key is, the empty one, and the longest one, too, just it is gone behind a del, and all others have what they had, of tables of one bucket and of many; taken out again, it isn't there.
func TestKeys(t *testing.T) {
	for _, n := range []int{1, 2, 8, 1024, mostBuckets} {
		m := trial.Busy(t, len(trial.Keys()), 1, n)
		vals := map[string]string{}
		for i, key := range trial.Keys() {
			vals[key] = fmt.Sprint(i)
			putIn(t, m, 0, key, vals[key])
		}
		for _, key := range slices.Concat(trial.Keys(), []string{"none"}, trial.Keys()) {
			val, had := vals[key]
			delete(vals, key)
			d := New(0, key)
			mem.Finish(m, d, 99)
			checkTold(t, d, told{val: val, had: had}, "a key")
			for _, key := range trial.Keys() {
				is, had := trial.ValOf(m, key)
				if val, want := vals[key]; is != val || had != want {
					t.Fatalf("of %d buckets, of %q: %q, %v", n, key, is, had)
				}
			}
		}
		if len(m.Reach()) != 0 || m.Waiting() != 1+len(trial.Keys()) || m.Arena.Spare() != 0 || m.Arena.Fault() {
			t.Fatalf("of %d buckets: %d are reached, %d wait", n, len(m.Reach()), m.Waiting())
		}
	}
}

// P12.1, P12.2: whatever the value is, the empty one, and the longest one, too, it is what was found.
func TestVals(t *testing.T) {
	for _, val := range append(trial.Keys(), key, val) {
		for place := range 3 {
			m := trial.Busy(t, 3, 1, 8)
			nodes := trial.ChainOf(8, trial.NewNode(key, val), 3, place)
			l := trial.Lay(t, m, trial.CellOf(m, key), nodes...)
			s := newYes(t, m)
			trial.CheckChain(t, m, key, s.dels(l, place), "a del")
			checkTold(t, s.d, told{val: val, had: true}, "a del")
		}
	}
}

// P12.1: of keys of one bucket whose sums differ each is found, and is taken out of its place.
func TestOfOneBucket(t *testing.T) {
	const length = 5
	for _, n := range []int{1, 2, 16} {
		for first := range length {
			nodes := trial.Others(key, n, length)
			m := trial.Busy(t, length, 2, n)
			l := trial.Lay(t, m, trial.CellOf(m, key), nodes...)
			for len(nodes) > 0 {
				place := first % len(nodes)
				l = newSteps(t, m, 0, nodes[place].Key).dels(l, place)
				nodes = slices.Delete(nodes, place, place+1)
				trial.CheckChain(t, m, key, l, "a del")
			}
		}
	}
}

// P12.1: of two nodes of the same key the first is taken out, and the second stays, till another del takes it out.
func TestFirstOfTwo(t *testing.T) {
	for ahead := range 3 {
		for between := range 3 {
			m := trial.Busy(t, 8, 2, 1)
			second := trial.NewNode(key, "second")
			nodes := append(chain(1, ahead+1, ahead), trial.ChainOf(1, second, ahead+between+1, ahead+between)[ahead:]...)
			l := trial.Lay(t, m, trial.CellOf(m, key), nodes...)
			for _, place := range []int{ahead, ahead + between, -1} {
				l = newYes(t, m).dels(l, place)
				trial.CheckChain(t, m, key, l, "a del")
			}
		}
	}
}

// P12.1: what is taken out has both the key and its sum: nodes of the same sum and another key, or of the key and another sum, aren't it, and stay.
func TestBothKeyAndSum(t *testing.T) {
	otherKey := arena.Node{Key: "l", Val: "other key", Sum: fnv.Sum(key)}
	otherSum := arena.Node{Key: key, Val: "other sum", Sum: fnv.Sum(key) + 8}
	itsVal := arena.Node{Key: "l", Val: key, Sum: fnv.Sum(key)}
	for _, nodes := range [][]arena.Node{{otherKey}, {otherSum}, {itsVal}, {{}}, {otherKey, otherSum, itsVal, {}}} {
		m := trial.Busy(t, 6, 2, 8)
		l := trial.Lay(t, m, trial.CellOf(m, key), append(slices.Clone(nodes), yes())...)
		l = newYes(t, m).dels(l, len(nodes))
		trial.CheckChain(t, m, key, newYes(t, m).dels(l, -1), "taken out, and not there")
	}
}

// P12.1: the bucket is that of the key's sum, of the table's number of buckets, and the lock is that bucket's: a node of that key and sum in another bucket isn't found.
func TestWhichBucket(t *testing.T) {
	for _, c := range trial.Homes() {
		m := trial.Busy(t, 2, 1, c.N)
		wrong := trial.Alloc(t, m, arena.Node{Key: c.Key, Val: "wrong", Sum: c.Sum})
		for bucket := range c.N {
			trial.Put(t, m, m.Now().Base+bucket, wrong)
		}
		cell := m.Now().Base + c.Bucket
		right := trial.Alloc(t, m, arena.Node{Key: c.Key, Val: "right", Sum: c.Sum})
		trial.Put(t, m, cell, right)
		before := trial.Look(m)
		d := New(0, c.Key)
		trial.Ahead(t, m, d, begun-1, c.Key)
		if held := m.Locks.Held(0); !slices.Equal(held, []int{c.Lock}) {
			t.Fatalf("of %q, of %d buckets, these locks are held: %v", c.Key, c.N, held)
		}
		trial.Finish(t, m, d, leaving-begun+2, c.Key)
		checkTold(t, d, told{val: "right", had: true}, c.Key)
		before.Word(cell, 0).Wait(far, right).Check(t, m, c.Key)
		trial.Finish(t, m, New(0, c.Key), missing, c.Key)
		before.Word(cell, 0).Wait(far, right).Check(t, m, c.Key)
	}
}

// P12.1: the table that counts is what is changed, whichever it is, and by its lock.
func TestWhichTable(t *testing.T) {
	m := trial.BusyTables(t, yes(), 8, 1, 2, 8, 1024)
	for number := range 6 {
		trial.Count(m, number)
		newYes(t, m).dels([]arena.Handle{arena.Handle(number + 1)}, 0)
	}
	for number := range 6 {
		trial.Count(m, number)
		newYes(t, m).dels(nil, -1)
	}
}

// P12.1: a table that comes to count ahead of the first step is the one; one that comes to count while the bucket is being held has the del begin anew; one that comes to count behind that doesn't matter: the del goes on with the bucket that it holds, and drops that one's lock.
func TestOtherTable(t *testing.T) {
	for _, sizes := range [][]int{{1, 8}, {8, 1}, {8, 8}, {2, 4}, {4, 2}} {
		for behind := range leaving + 2 {
			m := trial.BusyTables(t, yes(), sizes...)
			s := newYes(t, m)
			found := arena.Handle(3)
			if behind == 0 {
				trial.Count(m, 1)
			}
			if behind == 1 || behind == 2 {
				s.Load()
				if behind == 1 {
					trial.Count(m, 1)
				}
				s.Lock()
				trial.Count(m, 1)
				s.Again()
				s.Free()
			}
			if behind <= 2 {
				found = 2
			}
			s.Hold()
			for i, step := range []func(){s.Cell, func() { s.find(found) }, func() { s.passOver(0) }, s.wait, s.Drop} {
				if i+3 == behind {
					trial.Count(m, 1)
				}
				s.Tells("another table counts")
				step()
			}
			trial.Count(m, 0)
			s.Tells("another table counts, behind the last step")
		}
	}
}

// P12.1: it begins anew as often as another table comes to count, one that is made meanwhile, too, and takes out one node, once.
func TestOverAndOver(t *testing.T) {
	for times := range 6 {
		m := trial.BusyTables(t, yes(), 8, 2)
		s := newYes(t, m)
		now := 2
		for range times {
			s.Load()
			s.Lock()
			if now = 1 + now%3; now == 3 && len(trial.Look(m).Tables) == 3 {
				desc, _ := m.Desc(trial.NewTable(t, m, 4))
				trial.Put(t, m, trial.CellIn(desc, key), 1)
			}
			trial.Count(m, now)
			s.Again()
			s.Free()
		}
		found := arena.Handle(now + 1)
		if now == 3 {
			found = 1
		}
		s.dels([]arena.Handle{found}, 0)
	}
}

// P12.1: to take its lock it is ready just if that is free, whoever holds it; steps that are taken before change nothing, and once it is freed the del goes on.
func TestLockHeld(t *testing.T) {
	for _, holder := range []int{0, 1, 2, 7, somebody} {
		for _, n := range []int{1, 2, 4, 8} {
			for place := -1; place < 2; place++ {
				m := trial.Busy(t, 2, 2, n)
				l := trial.Lay(t, m, trial.CellOf(m, key), chain(n, 2, place)...)
				lock := trial.LockOf(fnv.Sum(key), n)
				m.Locks.Try(lock, holder)
				s := newYes(t, m)
				s.Load()
				s.Stuck("the lock is held")
				m.Locks.Free(lock, holder)
				s.Lock()
				s.Again()
				s.Cell()
				s.goesAlong(l, place)
			}
		}
	}
}

// P12.1: what counts is the lock now: ready as it is freed, not any more as another one takes it.
func TestLockNow(t *testing.T) {
	m := trial.Busy(t, 2, 2, 8)
	l := trial.Lay(t, m, trial.CellOf(m, key), yes())
	lock := trial.LockOf(fnv.Sum(key), 8)
	s := newYes(t, m)
	s.Load()
	for range 3 {
		if !s.d.Ready(m) {
			t.Fatal("the lock is free, it isn't ready")
		}
		m.Locks.Try(lock, 1)
		s.Stuck("another one was first")
		m.Locks.Free(lock, 1)
	}
	s.Lock()
	s.Again()
	s.Cell()
	s.goesAlong(l, 0)
}

// P12.1: other locks don't matter, and are left to their holders, whether those are others, or its own worker: with all of them held it is ready for each step, whether a node is found, or none is.
func TestOtherLocksHeld(t *testing.T) {
	for _, holder := range []int{0, 1, somebody} {
		for place := -1; place < 3; place++ {
			m := trial.Busy(t, 4, 2, 8)
			trial.Lay(t, m, trial.CellOf(m, key), chain(8, 3, place)...)
			for lock := range m.Locks.Len() {
				if lock != trial.LockOf(fnv.Sum(key), 8) {
					m.Locks.Try(lock, holder)
				}
			}
			before := trial.Look(m)
			d := New(0, key)
			if _, done := mem.Finish(m, d, 99); !done {
				t.Fatal("with other locks held it isn't done")
			}
			if is := trial.Look(m).Holders; !slices.Equal(is, before.Holders) {
				t.Fatalf("the holders are %v, not %v", is, before.Holders)
			}
			if _, had := trial.ValOf(m, key); had {
				t.Fatal("the key is there yet")
			}
		}
	}
}

// P12.1: of its own lock, which is held by itself from the second step on, it doesn't wait for any other step, though all locks are held; begun anew it does again.
func TestReadyForOthers(t *testing.T) {
	m := trial.BusyTables(t, yes(), 8, 2)
	s := newYes(t, m)
	s.Load()
	for lock := firstWriter; lock <= lastWriter; lock++ {
		m.Locks.Try(lock, somebody)
	}
	s.Stuck("all locks are held")
	m.Locks.Free(s.LockOf(), somebody)
	s.Lock()
	trial.Count(m, 1)
	s.Again()
	s.Free()
	m.Locks.Try(s.LockOf(), 1)
	s.Load()
	s.Stuck("all locks are held again")
	m.Locks.Free(s.LockOf(), somebody)
	s.Lock()
	s.Again()
	s.Cell()
	s.find(2)
	s.leaves(0)
}

// putIn has a put take all its steps.
func putIn(t *testing.T, m *mem.Mem, worker int, key, val string) {
	t.Helper()
	p := put.New(worker, key, val)
	if n, done := mem.Finish(m, p, 9999); !done || p.Err() != api.OK {
		t.Fatalf("a put of %q: Finish = %d, %v, Err = %v", key, n, done, p.Err())
	}
}

// takenOut has a del take all its steps, by which it has found this.
func takenOut(t *testing.T, m *mem.Mem, worker int, key, val string, had bool) {
	t.Helper()
	d := New(worker, key)
	if n, done := mem.Finish(m, d, 9999); !done {
		t.Fatalf("a del of %q: Finish = %d, %v", key, n, done)
	}
	checkTold(t, d, told{val: val, had: had}, "a del of "+key)
}

// got says whether a get, of the second worker, finds this.
func got(t *testing.T, m *mem.Mem, key, val string, had bool, what string) {
	t.Helper()
	g := get.New(1, key)
	mem.Finish(m, g, 9999)
	if is, ok := g.Val(); is != val || ok != had {
		t.Fatalf("%s: a get of %q finds %q, %v, not %q, %v", what, key, is, ok, val, had)
	}
}

// stepsOf is how many steps a del takes of such a chain, and how many of them there are up to the one that passes over, or up to the end, if there is none.
func stepsOf(length, place int) (all, out int) {
	if place < 0 {
		return missing + length, missing + length
	}
	return leaving + place + 1, leaving + place - 1
}

// P12.2: a get that goes on between any two of its steps finds the key up to the step that passes over, and doesn't from then on; of other keys it finds what they had, all the while.
func TestGetBetween(t *testing.T) {
	trial.EachChain(func(length, place int) {
		all, out := stepsOf(length, place)
		m := trial.Busy(t, length+1, 2, 8)
		m.Cells.Store(firstCounter+1, 0)
		nodes := chain(8, length, place)
		trial.Lay(t, m, trial.CellOf(m, key), nodes...)
		d := New(0, key)
		for i := range all + 1 {
			what := fmt.Sprintf("behind %d steps", i)
			if place >= 0 && i < out {
				got(t, m, key, val, true, what)
			} else {
				got(t, m, key, "", false, what)
			}
			for _, node := range nodes {
				if node.Key != key {
					got(t, m, node.Key, node.Val, true, what)
				}
			}
			if i < all {
				trial.Step(t, m, d, i == all-1, what)
			}
		}
	})
}

// P12.2: a get that is on its way, at whichever step, while the del takes all its steps, or those that are left, finds the key, or nothing; of another key, ahead of it in the chain or behind it, what that has. What it stands ahead of isn't freed under its feet, though a drain goes on as far as it can.
func TestGetOnItsWay(t *testing.T) {
	trial.EachChain(func(length, place int) {
		nodes := chain(8, length, place)
		all, out := stepsOf(length, place)
		for _, node := range append(slices.Clone(nodes), yes()) {
			for i := range all {
				for j := range begun + length + 2 {
					m, _ := mem.New(length+1, 2)
					trial.Count(m, trial.NewTable(t, m, 8))
					trial.Lay(t, m, trial.CellOf(m, key), nodes...)
					d, g := New(0, key), get.New(1, node.Key)
					trial.Ahead(t, m, d, i, "the del's steps ahead")
					_, over := mem.Finish(m, g, j)
					trial.Finish(t, m, d, all-i, "the del's steps that are left")
					mem.Finish(m, retire.New(2), 99)
					if !over {
						mem.Finish(m, g, 99)
					}
					val, had := g.Val()
					switch {
					case had && val != node.Val || m.Arena.Fault():
						t.Fatalf("the get found %q, the flag is up: %v", val, m.Arena.Fault())
					case node.Key != key && !had:
						t.Fatalf("of %d nodes, at %d, the get at %d, the del at %d: %q isn't found", length, place, j, i, node.Key)
					case node.Key == key && had && (place < 0 || i >= out):
						t.Fatalf("of %d nodes, at %d, the get at %d, the del at %d: the key is found", length, place, j, i)
					}
				}
			}
		}
	})
}

// P12.1: the node comes behind those that wait, whatever they are; what waits is freed by a drain alone, which frees nothing else; its place is free then for another one.
func TestWaits(t *testing.T) {
	m, _ := mem.New(3, 2)
	for _, key := range []string{"a", "b", "c"} {
		putIn(t, m, 0, key, "1")
	}
	takenOut(t, m, 0, "b", "1", true)
	takenOut(t, m, 1, "a", "1", true)
	takenOut(t, m, 0, "a", "", false)
	if l := trial.Look(m).Waiting; !slices.Equal(l, []arena.Handle{2, 1}) {
		t.Fatalf("these wait: %v", l)
	}
	p := put.New(0, "d", "2")
	if mem.Finish(m, p, 99); p.Err() != api.ErrFull || m.Arena.Spare() != 0 {
		t.Fatalf("a put, while those that were taken out wait: %v, %d are free", p.Err(), m.Arena.Spare())
	}
	trial.Finish(t, m, retire.New(2), 8, "a drain")
	if m.Arena.Spare() != 2 || m.Waiting() != 0 || m.Arena.Fault() {
		t.Fatalf("%d are free, %d wait", m.Arena.Spare(), m.Waiting())
	}
	got(t, m, "c", "1", true, "drained")
	putIn(t, m, 0, "a", "2")
	takenOut(t, m, 0, "a", "2", true)
	if l := trial.Look(m).Waiting; !slices.Equal(l, []arena.Handle{1 + far}) {
		t.Fatalf("these wait: %v", l)
	}
}

// P12.1: a get that came in ahead of the step that passes over, and stands at the node, goes on with the chain by that one's own Next, and a drain waits for it.
func TestGetAtNode(t *testing.T) {
	m, _ := mem.New(3, 2)
	trial.Count(m, trial.NewTable(t, m, 8))
	nodes := chain(8, 3, 1)
	l := trial.Lay(t, m, trial.CellOf(m, key), nodes...)
	g := get.New(1, nodes[2].Key)
	trial.Ahead(t, m, g, begun+1, "the get's steps ahead")
	takenOut(t, m, 0, key, val, true)
	d := retire.New(2)
	if n, done := mem.Finish(m, d, 99); done || n != 4 {
		t.Fatalf("a drain, while the get is in: Finish = %d, %v", n, done)
	}
	trial.Ahead(t, m, g, 1, "the step that reads the node")
	trial.Ahead(t, m, g, 1, "the step that finds the last one")
	if is, had := g.Val(); is != nodes[2].Val || !had || !m.Arena.Live(l[1]) {
		t.Fatalf("the get found %q, %v", is, had)
	}
	trial.Finish(t, m, g, 1, "the get goes out")
	if n, done := mem.Finish(m, d, 99); !done || n != 3 || m.Arena.Live(l[1]) || m.Arena.Fault() {
		t.Fatalf("a drain, behind the get: Finish = %d, %v", n, done)
	}
}

// P12.1: two dels of two workers into one bucket, of one key or of two, are one after the other: the second isn't ready to take the lock till the first one dropped it, and sees what that left.
func TestTwoOfOneBucket(t *testing.T) {
	for _, n := range []int{1, 8} {
		for place := range 3 {
			m := trial.Busy(t, 4, 2, n)
			nodes := chain(n, 3, 1)
			l := trial.Lay(t, m, trial.CellOf(m, key), nodes...)
			one, two := newYes(t, m), newSteps(t, m, 1, nodes[place].Key)
			one.Load()
			two.Load()
			for _, step := range []func(){one.Lock, one.Again, one.Cell, func() { one.Pass(1) }, func() { one.find(l[1]) }, func() { one.passOver(l[0]) }, one.wait} {
				step()
				two.Stuck("the other one has the lock")
			}
			one.Drop()
			two.Lock()
			two.Again()
			two.Cell()
			two.goesAlong([]arena.Handle{l[0], l[2]}, []int{0, -1, 1}[place])
			one.Tells("behind the other one's end")
		}
	}
}

// P12.1: a put and a del of two workers into one bucket are one after the other, whichever has the lock first: the put behind the del finds nothing, the del behind the put finds what that put in.
func TestPutOfOneBucket(t *testing.T) {
	for _, n := range []int{1, 8} {
		trial.EachChain(func(length, place int) {
			m := trial.Busy(t, length+1, 2, n)
			l := trial.Lay(t, m, trial.CellOf(m, key), chain(n, length, place)...)
			s, p := newYes(t, m), put.New(1, key, "newer")
			trial.Ahead(t, m, p, 1, "the put's first step")
			s.Hold()
			trial.Stuck(t, m, p, "the del has the lock")
			s.Cell()
			trial.Stuck(t, m, p, "the del has the lock")
			left := s.goesAlong(l, place)
			if _, done := mem.Finish(m, p, 99); !done || p.Had() || p.Err() != api.OK {
				t.Fatalf("a put behind a del: %v, %v", p.Had(), p.Err())
			}
			s.Tells("behind the put's end")
			trial.CheckChain(t, m, key, slices.Concat(m.Chain(trial.BucketOf(key, n))[:1], left), "a put behind a del")

			m = trial.Busy(t, length+1, 2, n)
			l = trial.Lay(t, m, trial.CellOf(m, key), chain(n, length, place)...)
			s, p = newYes(t, m), put.New(1, key, "newer")
			s.Load()
			trial.Ahead(t, m, p, 1, "the put's first step")
			for done := false; !done; {
				done = p.Step(m)
				if !done {
					s.Stuck("the put has the lock")
				}
			}
			s.Lock()
			s.Again()
			s.Cell()
			l = m.Chain(trial.BucketOf(key, n))
			trial.CheckChain(t, m, key, s.goesAlong(l, max(place, 0)), "a del behind a put")
			checkTold(t, s.d, told{val: "newer", had: true}, "a del behind a put")
		})
	}
}

// newTwo is a memory of 8 buckets, and dels of two workers, of two keys that are there, of these buckets.
func newTwo(t *testing.T, m *mem.Mem, one, two int) (l [2][]arena.Handle, s [2]*steps) {
	t.Helper()
	for worker, bucket := range []int{one, two} {
		key := trial.KeyIn(bucket, 8)
		l[worker] = trial.Lay(t, m, trial.CellOf(m, key), trial.NewNode(key, "its own"))
		s[worker] = newSteps(t, m, worker, key)
	}
	return l, s
}

// P12.1: two dels of two workers into two buckets whose locks are two know nothing of each other, however far each is; if the buckets have one lock, they are one after the other.
func TestTwoOfTwoBuckets(t *testing.T) {
	m := trial.Busy(t, 2, 2, 8)
	l, two := newTwo(t, m, 1, 2)
	for _, s := range two {
		s.Hold()
	}
	finds := func(s *steps) { s.find(l[s.Worker][0]) }
	for _, step := range []func(s *steps){func(s *steps) { s.Cell() }, finds, func(s *steps) { s.passOver(0) }, (*steps).wait, func(s *steps) { s.Drop() }} {
		for i, s := range two {
			step(s)
			two[1-i].Tells("behind the other one's step")
		}
	}

	m = trial.Busy(t, 2, 2, 8)
	l, two = newTwo(t, m, 1, 5)
	two[0].Hold()
	two[1].Load()
	two[1].Stuck("the other bucket has the same lock")
	two[0].Cell()
	two[0].goesAlong(l[0], 0)
	two[1].Lock()
	two[1].Again()
	two[1].Cell()
	two[1].goesAlong(l[1], 0)
}

// P12.1: a put and a del of two workers into two buckets whose locks are two know nothing of each other, however far each is.
func TestPutOfTwoBuckets(t *testing.T) {
	for ahead := range leaving + 2 {
		m := trial.Busy(t, 3, 2, 8)
		l, two := newTwo(t, m, 1, 2)
		p := put.New(1, two[1].Key, "newer")
		mem.Finish(m, p, ahead)
		trial.CheckChain(t, m, two[0].Key, two[0].dels(l[0], 0), "a del beside a put")
		mem.Finish(m, p, 99)
		if val, _ := trial.ValOf(m, two[1].Key); val != "newer" || !p.Had() {
			t.Fatalf("behind %d steps of the put, the key has %q", ahead, val)
		}
	}
}

// R3: dels of two memories know nothing of each other, though their workers, cells and handles are the same.
func TestTwoMemories(t *testing.T) {
	m, o := trial.Busy(t, 2, 2, 8), trial.Busy(t, 1, 2, 8)
	l := trial.Lay(t, m, trial.CellOf(m, key), yes())
	trial.Lay(t, o, trial.CellOf(o, key), yes())
	one, two := newYes(t, m), newYes(t, o)
	one.Begin()
	two.Begin()
	two.find(l[0])
	one.find(l[0])
	two.passOver(0)
	one.leaves(0)
	two.wait()
	two.Drop()
}

// P12.2: dels and puts, one after the other, of whatever keys, and numbers of buckets, have each key have what a plain map has it have, and each place be free, reached, or waiting.
func TestOneAfterTheOther(t *testing.T) {
	keys := trial.Keys()[:9]
	gone := 0
	for _, n := range []int{1, 2, 4, 8, 64} {
		for _, room := range []int{1, 2, 5, 9, 12} {
			m, _ := mem.New(room, 2)
			trial.Count(m, trial.NewTable(t, m, n))
			next, vals := trial.Picker(uint32(n*room)), map[string]string{}
			for i := range 160 {
				key := keys[next(len(keys))]
				if next(2) == 0 {
					val, had := vals[key]
					delete(vals, key)
					takenOut(t, m, 0, key, val, had)
					if had {
						gone++
					}
				} else if m.Arena.Spare() > 0 {
					vals[key] = fmt.Sprint(i)
					putIn(t, m, 0, key, vals[key])
				}
				for _, key := range keys {
					val, had := vals[key]
					got(t, m, key, val, had, "one after the other")
				}
				if m.Waiting() > 0 && next(3) == 0 {
					mem.Finish(m, retire.New(2), 9999)
				}
				if m.Arena.Spare()+m.Waiting()+len(vals) != room || len(m.Reach()) != len(vals) || m.Arena.Fault() {
					t.Fatalf("%d are free, %d wait, of %d keys %d are reached", m.Arena.Spare(), m.Waiting(), len(vals), len(m.Reach()))
				}
			}
		}
	}
	if gone < 300 {
		t.Errorf("%d dels alone found something", gone)
	}
}

// P12.1: a del is done by what it is of, not by what another del of that worker, and that key, did: the second finds what came meanwhile, or nothing.
func TestEachAnew(t *testing.T) {
	m := trial.Busy(t, 3, 1, 8)
	one, two, three := newYes(t, m), newYes(t, m), newYes(t, m)
	l := trial.Lay(t, m, trial.CellOf(m, key), chain(8, 2, 1)...)
	l = one.dels(l, 1)
	two.dels(l, -1)
	putIn(t, m, 0, key, "newer")
	three.dels(m.Chain(trial.BucketOf(key, 8)), 0)
	for _, s := range []*steps{one, two} {
		s.Tells("behind the others' ends")
	}
}

// P12.1: a word in the bucket's cell that is no node's handle, and a Next that is none: by the step that would read its node nothing is found, and the flag is up; nothing is passed over, and nothing waits.
func TestNoHandle(t *testing.T) {
	for _, word := range trial.Words() {
		for length := range 3 {
			m := trial.Busy(t, 5, 2, 8)
			trial.Alloc(t, m, yes())
			h := arena.Handle(word)
			l := trial.Lay(t, m, trial.CellOf(m, key), chain(8, length, -1)...)
			if h == 0 || m.Arena.Live(h) {
				continue
			}
			trial.Join(t, m, trial.CellOf(m, key), l, length, h)
			s := newYes(t, m)
			s.Begin()
			s.Pass(length)
			s.Fail()
			s.Drop()
		}
	}
}

// P12.1: a stale handle in the bucket's cell can't be read, whether its place is free, or taken again, by a node of the key, too: the flag is up, nothing is found, and the cell stays as it is.
func TestStaleInCell(t *testing.T) {
	for _, again := range []bool{false, true} {
		m := trial.Busy(t, 2, 2, 8)
		l := trial.Lay(t, m, trial.CellOf(m, key), yes())
		trial.Free(t, m, l[0])
		if again {
			trial.Alloc(t, m, yes())
		}
		s := newYes(t, m)
		s.Begin()
		s.Fail()
		s.Drop()
	}
}

// P12.1: a stale handle behind the key's node isn't used, and is what the chain goes on with; one ahead of it hides it.
func TestStaleInChain(t *testing.T) {
	for place := range 2 {
		m := trial.Busy(t, 4, 2, 8)
		l := trial.Lay(t, m, trial.CellOf(m, key), chain(8, place+2, place)...)
		trial.Free(t, m, l[place+1])
		newYes(t, m).dels(l, place)
		if m.Arena.Fault() {
			t.Fatal("the flag is up")
		}
	}

	m := trial.Busy(t, 4, 2, 8)
	l := trial.Lay(t, m, trial.CellOf(m, key), chain(8, 3, 2)...)
	trial.Free(t, m, l[1])
	s := newYes(t, m)
	s.Begin()
	s.Pass(1)
	s.Fail()
	s.Drop()
}

// P12.1: with the flag up from the beginning on a del goes as ever.
func TestFlagUp(t *testing.T) {
	trial.EachChain(func(length, place int) {
		m := trial.Busy(t, length+1, 2, 8)
		m.Arena.Read(0)
		l := trial.Lay(t, m, trial.CellOf(m, key), chain(8, length, place)...)
		trial.CheckChain(t, m, key, newYes(t, m).dels(l, place), "the flag is up")
	})
}

// P12.1: of a number that no table has there is no bucket to take out of: lock 1 is taken, and dropped, by five steps in all, nothing is found, nothing waits, and nothing is changed, though all cells, the period's, too, have the node's handle.
func TestWrongNumber(t *testing.T) {
	for _, number := range trial.WrongNumbers(2) {
		m := trial.Busy(t, 2, 1, 8)
		h := trial.Alloc(t, m, yes())
		for cell := range m.Cells.Len() {
			trial.Put(t, m, cell, h)
		}
		m.Cells.Store(currentCell, number)
		before := trial.Look(m)
		s := newYes(t, m)
		s.Still("the step that loads the table's number")
		s.Take(before.Holder(firstWriter, 0), false, "the step that takes the lock")
		s.Again()
		s.Still("the step that loads no cell")
		s.Take(before, true, "the last step")
	}
}

// P12.1: a number that no table has, and one that a table has, are two, whichever of them comes first; the del goes on by the one that counts as the bucket is held.
func TestWrongNumberBetween(t *testing.T) {
	for _, number := range trial.WrongNumbers(2) {
		m := trial.Busy(t, 2, 2, 8)
		l := trial.Lay(t, m, trial.CellOf(m, key), yes())
		m.Cells.Store(currentCell, number)
		s := newYes(t, m)
		s.Still("the step that loads the table's number")
		s.Take(trial.Look(m).Holder(firstWriter, 0), false, "the step that takes the lock")
		trial.Count(m, 1)
		s.Again()
		s.Take(trial.Look(m).Holder(firstWriter, -1), false, "the step that frees the lock")
		s.Hold()
		m.Cells.Store(currentCell, number)
		s.Cell()
		s.goesAlong(l, 0)
	}
}

// R1: of a worker that there isn't, below 0 or beyond the last one, all calls end, and none panics; none below 0 can have a lock, so that such a del changes nothing, one beyond the last one leaves no lock held.
func TestNoWorker(t *testing.T) {
	for _, worker := range append(trial.NotWorkers(), 3, 4, 5) {
		m := trial.Busy(t, 3, 3, 2)
		trial.Lay(t, m, trial.CellOf(m, key), chain(2, 2, 1)...)
		before := trial.Look(m)
		d := New(worker, key)
		checkTold(t, d, told{}, "a worker that there isn't")
		n, done := mem.Finish(m, d, 99)
		if worker < 0 {
			if done || n != 1 {
				t.Fatalf("of the worker %d: Finish = %d, %v", worker, n, done)
			}
			trial.Stuck(t, m, d, "no lock is to be had")
			before.Check(t, m, "a worker below 0")
			checkTold(t, d, told{}, "a worker below 0")
			continue
		}
		if !done || n != leaving+2 || !slices.Equal(trial.Look(m).Holders, before.Holders) {
			t.Fatalf("of the worker %d: Finish = %d, %v", worker, n, done)
		}
		checkTold(t, d, told{val: val, had: true}, "a worker beyond the last one")
	}
}

// R1: of a chain that comes back, to whichever node, steps can be taken on and on, each of which ends; once it is cut, the del comes to its end.
func TestRound(t *testing.T) {
	const length = 3
	for back := range length {
		m := trial.Busy(t, length+1, 2, 8)
		l := trial.Lay(t, m, trial.CellOf(m, key), chain(8, length, -1)...)
		trial.Link(t, m, l[length-1], l[back])
		s := newYes(t, m)
		s.Begin()
		s.Pass(200)
		if n, done := mem.Finish(m, s.d, 5000); n != 5000 || done {
			t.Fatalf("Finish = %d, %v", n, done)
		}
		for _, h := range l {
			trial.Link(t, m, h, 0)
		}
		s.Pass(1)
		s.Drop()
	}
}

// P12.1: a key's node whose Next is itself is found, and what comes in its place is its Next, as it was read: one step, and no endless loop.
func TestItself(t *testing.T) {
	for place := range 3 {
		m := trial.Busy(t, 3, 2, 8)
		l := trial.Lay(t, m, trial.CellOf(m, key), chain(8, place+1, place)...)
		trial.Link(t, m, l[place], l[place])
		newYes(t, m).dels(l, place)
	}
}

// R1: steps behind the last one don't panic, and change nothing, though another del of that worker is on its way, and has the lock; what it tells it tells as ever.
func TestStepBehindEnd(t *testing.T) {
	trial.EachChain(func(length, place int) {
		m := trial.Busy(t, length+2, 2, 8)
		trial.Lay(t, m, trial.CellOf(m, key), chain(8, length, place)...)
		d := New(0, key)
		mem.Finish(m, d, 99)
		is, had := d.Had()
		trial.Ahead(t, m, New(0, key), begun-1, "another del")
		before := trial.Look(m)
		for range 9 {
			if !d.Ready(m) {
				t.Fatal("it isn't ready")
			}
			d.Step(m)
		}
		before.Check(t, m, "behind the end")
		checkTold(t, d, told{val: is, had: had}, "behind the end")
	})
}

// The document's example: of an empty table nothing is found, and nothing waits.
func TestExample(t *testing.T) {
	m, _ := mem.New(1, 1)
	before := trial.Look(m)
	takenOut(t, m, 0, "a", "", false)
	before.Check(t, m, "the example")
	if m.Waiting() != 0 {
		t.Fatalf("%d wait", m.Waiting())
	}
}
