package put

import (
	"fmt"
	"slices"
	"testing"

	"quietus/api"
	"quietus/arena"
	"quietus/fnv"
	"quietus/get"
	"quietus/mem"
	"quietus/retire"
	"quietus/trial"
)

// These are written out, so that the tests don't lean on the names that they hold.
const (
	mostWorkers  = 8
	mostNodes    = 1024
	mostBuckets  = 65536
	currentCell  = 1
	firstCounter = 2
	firstWriter  = 1
	lastWriter   = 4
	// far is how far apart the handles of one place are, from one generation to the next.
	far = 65536
	// somebody is the number of one who has locks that no put of a worker's has.
	somebody = 1000
	// begun is how many steps a put takes ahead of the first node: three of holding the bucket, one that loads its cell.
	begun = 4
	// coming is how many steps a put of a key that is new takes beside those that read a node; replacing, of a key that is there; refused, with no place free.
	coming    = 7
	replacing = 8
	refused   = 6
	// key and val are of what most puts put in.
	key = "k"
	val = "v"
)

// A put is a frame.
var _ mem.Frame = (*Put)(nil)

// yes is the elder node of the key that most puts put in.
func yes() arena.Node { return trial.NewNode(key, "elder") }

// chain are so many nodes of a bucket of n, with the elder one at a place; without it, if that is below 0.
func chain(n, length, place int) []arena.Node { return trial.ChainOf(n, yes(), length, place) }

// told is what a put tells.
type told struct {
	err  api.Errno
	had  bool
	mine arena.Handle
}

// checkTold says whether a put tells this, however often it is asked.
func checkTold(t *testing.T, p *Put, want told, what string) {
	t.Helper()
	for range 2 {
		if is := (told{p.Err(), p.Had(), p.Mine()}); is != want {
			t.Fatalf("%s: it tells %v, not %v", what, is, want)
		}
	}
}

// steps are the steps of one put, each of which is looked at, and what it has to tell.
type steps struct {
	*trial.Steps
	p   *Put
	val string
	// elder is what was found; 0, if nothing was.
	elder arena.Handle
	want  told
}

// newSteps is a put that took no step, by which nothing is changed, and which tells nothing.
func newSteps(t *testing.T, m *mem.Mem, worker int, key, val string) *steps {
	t.Helper()
	s := &steps{val: val}
	made := func() mem.Frame {
		s.p = New(worker, key, val)
		return s.p
	}
	s.Steps = trial.NewSteps(t, m, worker, key, made, func(what string) {
		t.Helper()
		checkTold(t, s.p, s.want, what)
	})
	return s
}

// newElder is a put of the key and the value that most puts are of.
func newElder(t *testing.T, m *mem.Mem) *steps {
	t.Helper()
	return newSteps(t, m, 0, key, val)
}

// find takes a step that reads the elder node.
func (s *steps) find(h arena.Handle) {
	s.T.Helper()
	s.elder, s.want.had = h, true
	s.Still("a step that finds a node")
}

// alloc takes a step that takes a node, which goes on with this one.
func (s *steps) alloc(next arena.Handle) {
	s.T.Helper()
	before := trial.Look(s.M)
	trial.Step(s.T, s.M, s.p, false, "the step that takes a node")
	came := trial.Look(s.M).Came(before)
	if len(came) != 1 {
		s.T.Fatalf("the step that takes a node: these came: %v", came)
	}
	node := trial.NewNode(s.Key, s.val)
	node.Next = next
	before.Taken(came[0], node).Check(s.T, s.M, "the step that takes a node")
	s.want.mine = came[0]
	s.Tells("the step that takes a node")
}

// full takes a step that finds no place free.
func (s *steps) full() {
	s.T.Helper()
	s.want.err = api.ErrFull
	s.Still("the step that finds no place free")
}

// putIn takes a step that puts the node in behind this one, or, if that is 0, as the first one.
func (s *steps) putIn(ahead arena.Handle) {
	s.T.Helper()
	h := s.want.mine
	s.want.mine = s.elder
	s.Lead(ahead, h)
}

// wait takes a step by which the elder node comes to wait.
func (s *steps) wait() {
	s.T.Helper()
	s.want.mine = 0
	s.Wait(s.elder)
}

// comesTo takes the steps of a put that is ahead of a node, or of the end of a chain, that aren't yet taken, and says the handle: the key isn't there, and comes ahead of all of a chain.
func (s *steps) comesTo(l []arena.Handle) arena.Handle {
	s.T.Helper()
	s.Pass(len(l))
	s.alloc(trial.At(l, 0))
	h := s.want.mine
	s.putIn(0)
	s.Drop()
	return h
}

// comes takes all steps of a put of a key that is new, ahead of this chain, and says the handle.
func (s *steps) comes(l []arena.Handle) arena.Handle {
	s.T.Helper()
	s.Begin()
	return s.comesTo(l)
}

// replaces takes all steps of a put of a key that is at this place of a chain, and says the handle.
func (s *steps) replaces(l []arena.Handle, place int) arena.Handle {
	s.T.Helper()
	s.Begin()
	s.Pass(place)
	s.find(l[place])
	s.alloc(trial.At(l, place+1))
	h := s.want.mine
	s.putIn(trial.At(l, place-1))
	s.wait()
	s.Drop()
	return h
}

// puts takes all steps of a put of a key that is at this place of a chain, or new, if that is below 0, and says the chain behind that.
func (s *steps) puts(l []arena.Handle, place int) []arena.Handle {
	s.T.Helper()
	if place < 0 {
		return slices.Concat([]arena.Handle{s.comes(l)}, l)
	}
	return slices.Concat(l[:place], []arena.Handle{s.replaces(l, place)}, l[place+1:])
}

// refused takes all steps of a put, with no place free.
func (s *steps) refused(l []arena.Handle, place int) {
	s.T.Helper()
	s.Begin()
	if place < 0 {
		s.Pass(len(l))
	} else {
		s.Pass(place)
		s.find(l[place])
	}
	s.full()
	s.Drop()
}

// P11.1, P11.2: a key that is new comes ahead of a chain of none, one and many; one that is there is replaced in its place, at the beginning, in the middle and at the end, and the elder node, alone, comes to wait, and isn't freed. Each step does what the chapter says, and nothing else, and the put tells so ahead of it, between the steps, and behind the last one.
func TestEachPlace(t *testing.T) {
	for _, n := range []int{1, 8} {
		trial.EachChain(func(length, place int) {
			m := trial.Busy(t, length+1, 2, n)
			l := trial.Lay(t, m, trial.CellOf(m, key), chain(n, length, place)...)
			want := newElder(t, m).puts(l, place)
			trial.CheckChain(t, m, key, want, "a put")
			if node, _ := m.Arena.Read(trial.At(want, max(place, 0))); node.Key != key || node.Val != val {
				t.Fatalf("in the place %d there is %v", place, node)
			}
			for _, h := range l {
				if !m.Arena.Live(h) {
					t.Fatalf("the node %d is freed", h)
				}
			}
		})
	}
}

// P11.1: whatever the worker is, it holds the bucket, and none else: by any number of workers, and of buckets.
func TestWorkers(t *testing.T) {
	for workers := 1; workers <= mostWorkers; workers++ {
		for worker := range workers {
			for _, n := range []int{1, 2, 4, 64} {
				m := trial.Busy(t, 3, workers, n)
				m.Cells.Store(firstCounter+worker, 0)
				l := newSteps(t, m, worker, key, "1").puts(nil, -1)
				l = newSteps(t, m, worker, key, "2").puts(l, 0)
				trial.CheckChain(t, m, key, l, "two puts")
			}
		}
	}
}

// P11.1, P11.2: if no place is free, whether the key is new or there, the bucket is dropped, and nothing else is done: behind the last step all is as it was, and ErrFull is told.
func TestFull(t *testing.T) {
	for _, n := range []int{1, 8} {
		trial.EachChain(func(length, place int) {
			m := trial.Busy(t, length+1, 2, n)
			l := trial.Lay(t, m, trial.CellOf(m, key), chain(n, length, place)...)
			trial.Fill(t, m)
			before := trial.Look(m)
			newElder(t, m).refused(l, place)
			before.Check(t, m, "refused")
		})
	}
}

// P11.1: a place counts as free by the step that takes it: one that comes to be free ahead of that is enough, one that comes to be taken is missing.
func TestFullNow(t *testing.T) {
	for _, place := range []int{-1, 0, 1, 2} {
		for behind := range begun + 1 {
			for _, free := range []bool{true, false} {
				m := trial.Busy(t, 4, 2, 8)
				l := trial.Lay(t, m, trial.CellOf(m, key), chain(8, 3, place)...)
				other := arena.Handle(4)
				if free {
					trial.Fill(t, m)
				}
				s := newElder(t, m)
				read := place
				if place < 0 {
					read = len(l)
				}
				all := []func(){s.Load, s.Lock, s.Again, s.Cell, func() { s.Pass(read) }}
				for i, step := range all {
					if i == behind && free {
						trial.Free(t, m, other)
					} else if i == behind {
						trial.Fill(t, m)
					}
					step()
				}
				if place >= 0 {
					s.find(l[place])
				}
				if free {
					s.alloc(trial.At(l, max(place+1, 0)))
				} else {
					s.full()
					s.Drop()
				}
			}
		}
	}
}

// P11.1, P11.2: into an arena of one place goes one key, once; while the elder node waits there is no place for another value.
func TestOnePlace(t *testing.T) {
	for _, n := range []int{1, 8} {
		m := trial.Busy(t, 1, 1, n)
		l := newSteps(t, m, 0, "a", "1").puts(nil, -1)
		newSteps(t, m, 0, "a", "2").refused(l, 0)
		trial.CheckChain(t, m, "a", l, "refused")
		one := trial.Others("a", n, 1)[0].Key
		newSteps(t, m, 0, one, "2").refused(l, -1)
		trial.CheckChain(t, m, "a", l, "refused")
		trial.Free(t, m, l[0])
		trial.Put(t, m, trial.CellOf(m, "a"), 0)
		l = newSteps(t, m, 0, one, "3").puts(nil, -1)
		if l[0] != 1+far {
			t.Fatalf("the chain is %v", l)
		}
	}
}

// P11.1: so many steps they are of the longest chain, too.
func TestHowMany(t *testing.T) {
	nodes := trial.Others(key, 2, mostNodes)
	for _, length := range []int{0, 1, 2, 3, 100, mostNodes - 1, mostNodes} {
		m := trial.Busy(t, mostNodes, 1, 2)
		l := trial.Lay(t, m, trial.CellOf(m, key), nodes[:length]...)
		p := New(0, key, val)
		if length == mostNodes {
			trial.Finish(t, m, p, refused+length, "no place is free")
			checkTold(t, p, told{err: api.ErrFull}, "no place is free")
			trial.Finish(t, m, New(0, nodes[length-1].Key, val), refused+length, "no place is free")
			continue
		}
		trial.Finish(t, m, p, coming+length, "the key is new")
		checkTold(t, p, told{}, "the key is new")
		m.Take()
		for place := 0; place < length && m.Arena.Spare() > 0; place += 1 + place/4 {
			p := New(0, nodes[place].Key, "newer")
			trial.Finish(t, m, p, replacing+place+2, "the key is there")
			checkTold(t, p, told{had: true}, "the key is there")
			if w := m.Take(); !slices.Equal(w, l[place:place+1]) {
				t.Fatalf("of %v these wait: %v", l[place], w)
			}
			if is, _ := trial.ValOf(m, nodes[place].Key); is != "newer" {
				t.Fatalf("of %q: %q", nodes[place].Key, is)
			}
			if is, _ := trial.ValOf(m, key); is != val {
				t.Fatalf("of %q: %q", key, is)
			}
		}
	}
}

// P11.2: whatever the key is, the empty one, too, just its own value is another one behind a put, among those of all others, of tables of one bucket and of many.
func TestKeys(t *testing.T) {
	for _, n := range []int{1, 2, 8, 1024, mostBuckets} {
		m := trial.Busy(t, 2*len(trial.Keys()), 1, n)
		vals := map[string]string{}
		for round := range 2 {
			for i, key := range trial.Keys() {
				vals[key] = fmt.Sprint(round, i)
				p := New(0, key, vals[key])
				mem.Finish(m, p, 99)
				checkTold(t, p, told{had: round == 1}, "a key")
				for _, key := range append(trial.Keys(), "none") {
					is, had := trial.ValOf(m, key)
					if val, want := vals[key]; is != val || had != want {
						t.Fatalf("of %d buckets, of %q: %q, %v", n, key, is, had)
					}
				}
			}
		}
		if len(m.Reach()) != len(trial.Keys()) || m.Waiting() != 1+len(trial.Keys()) || m.Arena.Spare() != 0 || m.Arena.Fault() {
			t.Fatalf("of %d buckets: %d are reached, %d wait", n, len(m.Reach()), m.Waiting())
		}
	}
}

// P11.2: whatever the value is, the empty one, and the one that there was, too, it is what the key has then.
func TestVals(t *testing.T) {
	for _, val := range append(trial.Keys(), "elder", key) {
		for place := range 2 {
			m := trial.Busy(t, 3, 1, 8)
			l := trial.Lay(t, m, trial.CellOf(m, key), chain(8, 2, place)...)
			l = newSteps(t, m, 0, key, val).puts(l, place)
			trial.CheckChain(t, m, key, l, "a put")
			if is, had := trial.ValOf(m, key); is != val || !had {
				t.Fatalf("of %q: %q, %v", val, is, had)
			}
		}
		m := trial.Busy(t, 1, 1, 8)
		trial.CheckChain(t, m, key, newSteps(t, m, 0, key, val).puts(nil, -1), "a put")
	}
}

// P11.1: of keys of one bucket whose sums differ each is found, and is replaced in its place.
func TestOfOneBucket(t *testing.T) {
	const length = 5
	for _, n := range []int{1, 2, 16} {
		nodes := trial.Others(key, n, length)
		m := trial.Busy(t, 2*length, 2, n)
		l := trial.Lay(t, m, trial.CellOf(m, key), nodes...)
		for place, node := range nodes {
			l = newSteps(t, m, 0, node.Key, val).puts(l, place)
			trial.CheckChain(t, m, key, l, "a put")
		}
	}
}

// P11.1: of two nodes of the same key the first is replaced, and the second stays.
func TestFirstOfTwo(t *testing.T) {
	for ahead := range 3 {
		for between := range 3 {
			m := trial.Busy(t, 8, 2, 1)
			nodes := append(chain(1, ahead+1, ahead), chain(1, ahead+between+1, ahead+between)[ahead:]...)
			l := trial.Lay(t, m, trial.CellOf(m, key), nodes...)
			l = newElder(t, m).puts(l, ahead)
			trial.CheckChain(t, m, key, l, "a put")
		}
	}
}

// P11.1: what is replaced has both the key and its sum: nodes of the same sum and another key, or of the key and another sum, aren't it, and stay.
func TestBothKeyAndSum(t *testing.T) {
	otherKey := arena.Node{Key: "l", Val: "other key", Sum: fnv.Sum(key)}
	otherSum := arena.Node{Key: key, Val: "other sum", Sum: fnv.Sum(key) + 8}
	itsVal := arena.Node{Key: "l", Val: key, Sum: fnv.Sum(key)}
	for _, nodes := range [][]arena.Node{{otherKey}, {otherSum}, {itsVal}, {{}}, {otherKey, otherSum, itsVal, {}}} {
		m := trial.Busy(t, 6, 2, 8)
		l := trial.Lay(t, m, trial.CellOf(m, key), nodes...)
		l = newElder(t, m).puts(l, -1)
		trial.CheckChain(t, m, key, l, "new")
		m = trial.Busy(t, 6, 2, 8)
		l = trial.Lay(t, m, trial.CellOf(m, key), append(slices.Clone(nodes), yes())...)
		l = newElder(t, m).puts(l, len(nodes))
		trial.CheckChain(t, m, key, l, "there")
	}
}

// P11.1: the bucket is that of the key's sum, of the table's number of buckets, the lock is that bucket's, and the node has the sum: a node of that key and sum in another bucket isn't found.
func TestWhichBucket(t *testing.T) {
	for _, c := range trial.Homes() {
		m := trial.Busy(t, 3, 1, c.N)
		wrong := trial.Alloc(t, m, arena.Node{Key: c.Key, Val: "wrong", Sum: c.Sum})
		for bucket := range c.N {
			trial.Put(t, m, m.Now().Base+bucket, wrong)
		}
		cell := m.Now().Base + c.Bucket
		trial.Put(t, m, cell, 0)
		before := trial.Look(m)
		p := New(0, c.Key, val)
		trial.Ahead(t, m, p, begun-1, c.Key)
		if held := m.Locks.Held(0); !slices.Equal(held, []int{c.Lock}) {
			t.Fatalf("of %q, of %d buckets, these locks are held: %v", c.Key, c.N, held)
		}
		trial.Finish(t, m, p, coming-begun+1, c.Key)
		node := arena.Node{Key: c.Key, Val: val, Sum: c.Sum}
		before.Taken(2, node).Word(cell, 2).Check(t, m, c.Key)
		trial.Finish(t, m, New(0, c.Key, "newer"), replacing+1, c.Key)
		newer := arena.Node{Key: c.Key, Val: "newer", Sum: c.Sum}
		before.Taken(2, node).Taken(3, newer).Word(cell, 3).Wait(far, 2).Check(t, m, c.Key)
	}
}

// P11.1: the table that counts is what is changed, whichever it is, and by its lock.
func TestWhichTable(t *testing.T) {
	m := trial.BusyTables(t, yes(), 8, 1, 2, 8, 1024)
	for number := range 6 {
		trial.Count(m, number)
		newElder(t, m).replaces([]arena.Handle{arena.Handle(number + 1)}, 0)
	}
}

// P11.1: a table that comes to count ahead of the first step is the one; one that comes to count while the bucket is being held has the put begin anew; one that comes to count behind that doesn't matter: the put goes on with the bucket that it holds, and drops that one's lock.
func TestOtherTable(t *testing.T) {
	for _, sizes := range [][]int{{1, 8}, {8, 1}, {8, 8}, {2, 4}, {4, 2}} {
		for behind := range replacing + 2 {
			m := trial.BusyTables(t, yes(), sizes...)
			s := newElder(t, m)
			found := arena.Handle(3)
			switch behind {
			case 0:
				trial.Count(m, 1)
				found = 2
				s.Hold()
			case 1, 2:
				s.Load()
				if behind == 1 {
					trial.Count(m, 1)
				}
				s.Lock()
				trial.Count(m, 1)
				found = 2
				s.Again()
				s.Free()
				s.Hold()
			default:
				s.Hold()
			}
			for i, step := range []func(){s.Cell, func() { s.find(found) }, func() { s.alloc(0) }, func() { s.putIn(0) }, s.wait, s.Drop} {
				if i+3 == behind {
					trial.Count(m, 1)
				}
				s.Tells("another table counts")
				step()
			}
			trial.Count(m, 0)
			s.Tells("another table counts, behind the last step")
		}
	}
}

// P11.1: it begins anew as often as another table comes to count, one that is made meanwhile, too, and takes a node once.
func TestOverAndOver(t *testing.T) {
	for times := range 6 {
		m := trial.BusyTables(t, yes(), 8, 2)
		s := newElder(t, m)
		now := 2
		for range times {
			s.Load()
			s.Lock()
			if now = 1 + now%3; now == 3 && len(trial.Look(m).Tables) == 3 {
				trial.NewTable(t, m, 4)
				desc, _ := m.Desc(now)
				trial.Put(t, m, trial.CellIn(desc, key), 1)
			}
			trial.Count(m, now)
			s.Again()
			s.Free()
		}
		found := arena.Handle(now + 1)
		if now == 3 {
			found = 1
		}
		s.replaces([]arena.Handle{found}, 0)
	}
}

// P11.1: to take its lock it is ready just if that is free, whoever holds it; steps that are taken before change nothing, and once it is freed the put goes on.
func TestLockHeld(t *testing.T) {
	for _, holder := range []int{0, 1, 2, 7, somebody} {
		for _, n := range []int{1, 2, 4, 8} {
			m := trial.Busy(t, 2, 2, n)
			l := trial.Lay(t, m, trial.CellOf(m, key), yes())
			lock := trial.LockOf(fnv.Sum(key), n)
			m.Locks.Try(lock, holder)
			s := newElder(t, m)
			s.Load()
			s.Stuck("the lock is held")
			m.Locks.Free(lock, holder)
			s.Lock()
			s.Again()
			s.Cell()
			s.find(l[0])
			s.alloc(0)
			s.putIn(0)
			s.wait()
			s.Drop()
		}
	}
}

// P11.1: what counts is the lock now: ready as it is freed, not any more as another one takes it.
func TestLockNow(t *testing.T) {
	m := trial.Busy(t, 2, 2, 8)
	lock := trial.LockOf(fnv.Sum(key), 8)
	s := newElder(t, m)
	s.Load()
	for range 3 {
		if !s.p.Ready(m) {
			t.Fatal("the lock is free, it isn't ready")
		}
		m.Locks.Try(lock, 1)
		s.Stuck("another one was first")
		m.Locks.Free(lock, 1)
	}
	s.Lock()
	s.Again()
	s.Cell()
	s.comesTo(nil)
}

// P11.1: other locks don't matter, and are left to their holders, whether those are others, or its own worker: with all of them held it is ready for each step, whether a node is found, none is, or no place is free.
func TestOtherLocksHeld(t *testing.T) {
	for _, holder := range []int{0, 1, somebody} {
		for place := -1; place < 3; place++ {
			for _, isFull := range []bool{true, false} {
				m := trial.Busy(t, 4, 2, 8)
				l := trial.Lay(t, m, trial.CellOf(m, key), chain(8, 3, place)...)
				if isFull {
					trial.Fill(t, m)
				}
				for lock := range m.Locks.Len() {
					if lock != trial.LockOf(fnv.Sum(key), 8) {
						m.Locks.Try(lock, holder)
					}
				}
				before := trial.Look(m)
				p := New(0, key, val)
				if _, done := mem.Finish(m, p, 99); !done || (p.Err() == api.ErrFull) != isFull {
					t.Fatalf("with other locks held: %v, %v", done, p.Err())
				}
				if is := trial.Look(m).Holders; !slices.Equal(is, before.Holders) {
					t.Fatalf("the holders are %v, not %v", is, before.Holders)
				}
				if val, _ := trial.ValOf(m, key); !isFull && val != "v" || isFull && place >= 0 && val != "elder" {
					t.Fatalf("the key has %q, of %v", val, l)
				}
			}
		}
	}
}

// P11.1: of its own lock, which is held by itself from the second step on, it doesn't wait for any other step, though all locks are held; begun anew it does again.
func TestReadyForOthers(t *testing.T) {
	m := trial.BusyTables(t, yes(), 8, 2)
	s := newElder(t, m)
	s.Load()
	for lock := firstWriter; lock <= lastWriter; lock++ {
		m.Locks.Try(lock, somebody)
	}
	s.Stuck("all locks are held")
	m.Locks.Free(s.LockOf(), somebody)
	s.Lock()
	trial.Count(m, 1)
	s.Again()
	s.Free()
	m.Locks.Try(s.LockOf(), 1)
	s.Load()
	s.Stuck("all locks are held again")
	m.Locks.Free(s.LockOf(), somebody)
	s.Lock()
	s.Again()
	s.Cell()
	s.find(2)
	s.alloc(0)
	s.putIn(0)
	s.wait()
	s.Drop()
}

// put has a put take all its steps.
func put(t *testing.T, m *mem.Mem, worker int, key, val string, want api.Errno) {
	t.Helper()
	p := New(worker, key, val)
	if n, done := mem.Finish(m, p, 9999); !done || p.Err() != want || p.Mine() != 0 {
		t.Fatalf("of %q: Finish = %d, %v, Err = %v, Mine = %d", key, n, done, p.Err(), p.Mine())
	}
}

// got says whether a get, of the second worker, finds this.
func got(t *testing.T, m *mem.Mem, key, val string, had bool, what string) {
	t.Helper()
	g := get.New(1, key)
	mem.Finish(m, g, 9999)
	if is, ok := g.Val(); is != val || ok != had {
		t.Fatalf("%s: a get of %q finds %q, %v, not %q, %v", what, key, is, ok, val, had)
	}
}

// stepsOf is how many steps a put takes of such a chain, and how many of them there are up to the one that puts in.
func stepsOf(length, place int) (all, in int) {
	if place < 0 {
		return coming + length, coming + length - 1
	}
	return replacing + place + 1, replacing + place - 1
}

// P11.2: a get that goes on between any two of its steps finds the elder value up to the step that puts in, the new one from then on, and, of other keys, what they had; it is never none, if the key was there.
func TestGetBetween(t *testing.T) {
	trial.EachChain(func(length, place int) {
		all, in := stepsOf(length, place)
		m := trial.Busy(t, length+1, 2, 8)
		m.Cells.Store(firstCounter+1, 0)
		nodes := chain(8, length, place)
		trial.Lay(t, m, trial.CellOf(m, key), nodes...)
		p := New(0, key, val)
		for i := range all + 1 {
			what := fmt.Sprintf("behind %d steps", i)
			switch {
			case i >= in:
				got(t, m, key, val, true, what)
			case place >= 0:
				got(t, m, key, "elder", true, what)
			default:
				got(t, m, key, "", false, what)
			}
			for _, node := range nodes {
				if node.Key != key {
					got(t, m, node.Key, node.Val, true, what)
				}
			}
			if i < all {
				trial.Step(t, m, p, i == all-1, what)
			}
		}
	})
}

// P11.2: a get that is on its way, at whichever step, while the put takes all its steps, or those that are left, finds the elder value or the new one, never none, if the key was there; what it stands ahead of isn't freed under its feet, though a drain goes on as far as it can.
func TestGetOnItsWay(t *testing.T) {
	trial.EachChain(func(length, place int) {
		all, in := stepsOf(length, place)
		for i := range all {
			for j := range begun + length + 2 {
				m, e := mem.New(length+1, 2)
				if e != api.OK {
					t.Fatal(e)
				}
				trial.Count(m, trial.NewTable(t, m, 8))
				trial.Lay(t, m, trial.CellOf(m, key), chain(8, length, place)...)
				p, g := New(0, key, val), get.New(1, key)
				trial.Ahead(t, m, p, i, "the put's steps ahead")
				_, over := mem.Finish(m, g, j)
				trial.Finish(t, m, p, all-i, "the put's steps that are left")
				mem.Finish(m, retire.New(2), 99)
				if !over {
					mem.Finish(m, g, 99)
				}
				is, had := g.Val()
				if had != (is == val || is == "elder") || place >= 0 && !had || i >= in && is != val || place < 0 && is == "elder" {
					t.Fatalf("of %d nodes, at %d, the get at %d, the put at %d: %q, %v", length, place, j, i, is, had)
				}
				if m.Arena.Fault() {
					t.Fatal("the flag is up")
				}
			}
		}
	})
}

// P11.1: the elder node comes behind those that wait, whatever they are; what waits is freed by a drain alone, which frees nothing else.
func TestWaits(t *testing.T) {
	m, _ := mem.New(4, 2)
	for _, val := range []string{"1", "2", "3"} {
		put(t, m, 0, key, val, api.OK)
	}
	if l := trial.Look(m).Waiting; !slices.Equal(l, []arena.Handle{1, 2}) {
		t.Fatalf("these wait: %v", l)
	}
	trial.Finish(t, m, retire.New(2), 8, "a drain")
	if m.Arena.Spare() != 3 || m.Waiting() != 0 || m.Arena.Fault() {
		t.Fatalf("%d are free, %d wait", m.Arena.Spare(), m.Waiting())
	}
	got(t, m, key, "3", true, "drained")
	put(t, m, 0, key, "4", api.OK)
	trial.CheckChain(t, m, key, []arena.Handle{1 + far}, "put again")
}

// P11.1: two puts of two workers into one bucket, of one key or of two, are one after the other: the second isn't ready to take the lock till the first one dropped it, and sees what that put in.
func TestTwoOfOneBucket(t *testing.T) {
	for _, n := range []int{1, 8} {
		for _, same := range []bool{true, false} {
			m := trial.Busy(t, 4, 2, n)
			l := trial.Lay(t, m, trial.CellOf(m, key), chain(n, 2, 1)...)
			other, place := key, 1
			if !same {
				other, place = trial.Others(key, n, 3)[2].Key, -1
			}
			one, two := newElder(t, m), newSteps(t, m, 1, other, "two")
			one.Load()
			two.Load()
			for _, step := range []func(){one.Lock, one.Again, one.Cell, func() { one.Pass(1) }, func() { one.find(l[1]) }, func() { one.alloc(0) }, func() { one.putIn(l[0]) }, one.wait} {
				step()
				two.Stuck("the other one has the lock")
			}
			l[1] = m.Chain(trial.BucketOf(key, n))[1]
			one.Drop()
			two.Lock()
			two.Again()
			two.Cell()
			if place < 0 {
				two.comesTo(l)
			} else {
				two.Pass(1)
				two.find(l[1])
				two.alloc(0)
				two.putIn(l[0])
				two.wait()
				two.Drop()
			}
			one.Tells("behind the other one's end")
		}
	}
}

// P11.1: two puts of two workers into two buckets whose locks are two know nothing of each other, however far each is; if the buckets have one lock, they are one after the other.
func TestTwoOfTwoBuckets(t *testing.T) {
	m := trial.Busy(t, 2, 2, 8)
	one, two := newSteps(t, m, 0, trial.KeyIn(1, 8), "one"), newSteps(t, m, 1, trial.KeyIn(2, 8), "two")
	for _, s := range []*steps{one, two} {
		s.Hold()
	}
	for _, step := range []func(s *steps){func(s *steps) { s.Cell() }, func(s *steps) { s.alloc(0) }, func(s *steps) { s.putIn(0) }, func(s *steps) { s.Drop() }} {
		step(one)
		two.Tells("behind the other one's step")
		step(two)
		one.Tells("behind the other one's step")
	}
	got(t, m, one.Key, "one", true, "both")
	got(t, m, two.Key, "two", true, "both")

	m = trial.Busy(t, 2, 2, 8)
	one, two = newSteps(t, m, 0, trial.KeyIn(1, 8), "one"), newSteps(t, m, 1, trial.KeyIn(5, 8), "two")
	one.Hold()
	two.Load()
	two.Stuck("the other bucket has the same lock")
	one.Cell()
	one.comesTo(nil)
	two.Lock()
	two.Again()
	two.Cell()
	two.comesTo(nil)
}

// P11.1: of two puts beside each other, and one place, the one that comes first to its step takes it, whichever began first; the other one is refused.
func TestTwoAndOnePlace(t *testing.T) {
	m := trial.Busy(t, 1, 2, 8)
	one, two := newSteps(t, m, 0, trial.KeyIn(1, 8), "one"), newSteps(t, m, 1, trial.KeyIn(2, 8), "two")
	one.Begin()
	two.Begin()
	two.alloc(0)
	one.full()
	two.putIn(0)
	one.Drop()
	two.Drop()
	checkTold(t, one.p, told{err: api.ErrFull}, "behind the other one's end")
}

// R3: puts of two memories know nothing of each other, though their workers, cells and handles are the same.
func TestTwoMemories(t *testing.T) {
	m, o := trial.Busy(t, 2, 2, 8), trial.Busy(t, 1, 2, 8)
	l := trial.Lay(t, m, trial.CellOf(m, key), yes())
	trial.Lay(t, o, trial.CellOf(o, key), yes())
	one, two := newElder(t, m), newElder(t, o)
	one.Begin()
	two.Begin()
	two.find(l[0])
	one.find(l[0])
	two.full()
	one.alloc(0)
	one.putIn(0)
	two.Drop()
	one.wait()
	one.Drop()
}

// P11.2: puts, one after the other, of whatever keys, and numbers of buckets, have each key have its last value, as a plain map does; one is refused just if no place is free, and changes nothing then.
func TestOneAfterTheOther(t *testing.T) {
	keys := trial.Keys()[:9]
	refusals := 0
	for _, n := range []int{1, 2, 4, 8, 64} {
		for _, room := range []int{1, 2, 5, 9, 12} {
			m, _ := mem.New(room, 2)
			trial.Count(m, trial.NewTable(t, m, n))
			next, vals := trial.Picker(uint32(n*room)), map[string]string{}
			for i := range 120 {
				key, val := keys[next(len(keys))], fmt.Sprint(i)
				before := trial.Look(m)
				if m.Arena.Spare() == 0 {
					put(t, m, 0, key, val, api.ErrFull)
					before.Check(t, m, "refused")
					refusals++
				} else {
					put(t, m, 0, key, val, api.OK)
					vals[key] = val
				}
				for _, key := range keys {
					val, had := vals[key]
					got(t, m, key, val, had, "one after the other")
				}
				if m.Waiting() > 0 && next(3) == 0 {
					mem.Finish(m, retire.New(2), 9999)
				}
				if m.Arena.Spare()+m.Waiting()+len(vals) != room || len(m.Reach()) != len(vals) || m.Arena.Fault() {
					t.Fatalf("%d are free, %d wait, of %d keys %d are reached", m.Arena.Spare(), m.Waiting(), len(vals), len(m.Reach()))
				}
			}
		}
	}
	if refusals < 100 {
		t.Errorf("%d puts alone were refused", refusals)
	}
}

// P11.1: a put is done by what it is of, not by what another put of that worker, and that key, did: each takes a node of its own.
func TestEachAnew(t *testing.T) {
	m := trial.Busy(t, 3, 1, 8)
	one, two := newElder(t, m), newElder(t, m)
	l := one.puts(nil, -1)
	l = two.puts(l, 0)
	l = newElder(t, m).puts(l, 0)
	trial.CheckChain(t, m, key, l, "three puts")
	one.Tells("behind the others' ends")
	newElder(t, m).refused(l, 0)
}

// P11.1: a word in the bucket's cell that is no node's handle, and a Next that is none: by the step that would read its node nothing is found, and the flag is up; the node comes ahead of all, and goes on with what the cell had.
func TestNoHandle(t *testing.T) {
	for _, word := range trial.Words() {
		for length := range 3 {
			m := trial.Busy(t, 5, 2, 8)
			trial.Alloc(t, m, yes())
			h := arena.Handle(word)
			l := trial.Lay(t, m, trial.CellOf(m, key), chain(8, length, -1)...)
			if h == 0 || m.Arena.Live(h) {
				continue
			}
			trial.Join(t, m, trial.CellOf(m, key), l, length, h)
			s := newElder(t, m)
			s.Begin()
			s.Pass(length)
			s.Fail()
			s.alloc(trial.At(append(l, h), 0))
			s.putIn(0)
			s.Drop()
		}
	}
}

// P11.1: a stale handle in the bucket's cell can't be read, whether its place is free, or taken again, by a node of the key, too; if no place is free, the put is refused as ever.
func TestStaleInCell(t *testing.T) {
	for _, again := range []bool{false, true} {
		for _, isFull := range []bool{false, true} {
			m := trial.Busy(t, 2, 2, 8)
			l := trial.Lay(t, m, trial.CellOf(m, key), yes())
			trial.Free(t, m, l[0])
			if again {
				trial.Alloc(t, m, yes())
			}
			if isFull {
				trial.Fill(t, m)
			}
			s := newElder(t, m)
			s.Begin()
			s.Fail()
			if isFull {
				s.full()
				s.Drop()
				continue
			}
			s.alloc(l[0])
			s.putIn(0)
			s.Drop()
			if val, had := trial.ValOf(m, key); val != "v" || !had {
				t.Fatalf("the key has %q, %v", val, had)
			}
		}
	}
}

// P11.1: a stale handle behind the key's node isn't used, and is what the new one goes on with; one ahead of it hides it.
func TestStaleInChain(t *testing.T) {
	m := trial.Busy(t, 4, 2, 8)
	l := trial.Lay(t, m, trial.CellOf(m, key), chain(8, 3, 1)...)
	trial.Free(t, m, l[2])
	newElder(t, m).replaces(l, 1)
	if m.Arena.Fault() {
		t.Fatal("the flag is up")
	}

	m = trial.Busy(t, 4, 2, 8)
	l = trial.Lay(t, m, trial.CellOf(m, key), chain(8, 3, 2)...)
	trial.Free(t, m, l[1])
	s := newElder(t, m)
	s.Begin()
	s.Pass(1)
	s.Fail()
	s.alloc(l[0])
	s.putIn(0)
	s.Drop()
}

// P11.1: with the flag up from the beginning on a put goes as ever.
func TestFlagUp(t *testing.T) {
	m := trial.Busy(t, 4, 2, 8)
	m.Arena.Read(0)
	l := trial.Lay(t, m, trial.CellOf(m, key), chain(8, 2, 1)...)
	trial.CheckChain(t, m, key, newElder(t, m).puts(l, 1), "the flag is up")
}

// P11.1: of a number that no table has there is no bucket to put in: lock 1 is taken, and dropped, by five steps in all, no node is taken, and nothing is changed, though all cells, the period's, too, have the node's handle; OK is told, for a node could be taken.
func TestWrongNumber(t *testing.T) {
	for _, number := range trial.WrongNumbers(2) {
		for _, isFull := range []bool{false, true} {
			m := trial.Busy(t, 2, 1, 8)
			h := trial.Alloc(t, m, yes())
			for cell := range m.Cells.Len() {
				trial.Put(t, m, cell, h)
			}
			if isFull {
				trial.Fill(t, m)
			}
			m.Cells.Store(currentCell, number)
			before := trial.Look(m)
			s := newElder(t, m)
			s.Still("the step that loads the table's number")
			s.Take(before.Holder(firstWriter, 0), false, "the step that takes the lock")
			s.Again()
			s.Still("the step that loads no cell")
			s.Take(before, true, "the last step")
		}
	}
}

// P11.1: a number that no table has, and one that a table has, are two, whichever of them comes first; the put goes on by the one that counts as the bucket is held.
func TestWrongNumberBetween(t *testing.T) {
	for _, number := range trial.WrongNumbers(2) {
		m := trial.Busy(t, 2, 2, 8)
		l := trial.Lay(t, m, trial.CellOf(m, key), yes())
		m.Cells.Store(currentCell, number)
		s := newElder(t, m)
		s.Still("the step that loads the table's number")
		s.Take(trial.Look(m).Holder(firstWriter, 0), false, "the step that takes the lock")
		trial.Count(m, 1)
		s.Again()
		s.Take(trial.Look(m).Holder(firstWriter, -1), false, "the step that frees the lock")
		s.Hold()
		m.Cells.Store(currentCell, number)
		s.Cell()
		s.find(l[0])
		s.alloc(0)
		s.putIn(0)
		s.wait()
		s.Drop()
	}
}

// R1: of a worker that there isn't, below 0 or beyond the last one, all calls end, and none panics; none below 0 can have a lock, so that such a put changes nothing, one beyond the last one leaves no lock held.
func TestNoWorker(t *testing.T) {
	for _, worker := range append(trial.NotWorkers(), 3, 4, 5) {
		m := trial.Busy(t, 3, 3, 2)
		trial.Lay(t, m, trial.CellOf(m, key), chain(2, 2, 1)...)
		before := trial.Look(m)
		p := New(worker, key, val)
		checkTold(t, p, told{}, "a worker that there isn't")
		n, done := mem.Finish(m, p, 99)
		if worker < 0 {
			if done || n != 1 {
				t.Fatalf("of the worker %d: Finish = %d, %v", worker, n, done)
			}
			trial.Stuck(t, m, p, "no lock is to be had")
			before.Check(t, m, "a worker below 0")
			checkTold(t, p, told{}, "a worker below 0")
			continue
		}
		if !done || n != replacing+2 || !slices.Equal(trial.Look(m).Holders, before.Holders) {
			t.Fatalf("of the worker %d: Finish = %d, %v", worker, n, done)
		}
		checkTold(t, p, told{had: true}, "a worker beyond the last one")
	}
}

// R1: of a chain that comes back, to whichever node, steps can be taken on and on, each of which ends; once it is cut, the put comes to its end.
func TestRound(t *testing.T) {
	const length = 3
	for back := range length {
		m := trial.Busy(t, length+1, 2, 8)
		l := trial.Lay(t, m, trial.CellOf(m, key), chain(8, length, -1)...)
		trial.Link(t, m, l[length-1], l[back])
		s := newElder(t, m)
		s.Begin()
		s.Pass(200)
		if n, done := mem.Finish(m, s.p, 5000); n != 5000 || done {
			t.Fatalf("Finish = %d, %v", n, done)
		}
		for _, h := range l {
			trial.Link(t, m, h, 0)
		}
		s.Pass(1)
		s.alloc(l[0])
		s.putIn(0)
		s.Drop()
	}
}

// R1: steps behind the last one don't panic, and change nothing, though another put of that worker is on its way, and has the lock; what it tells it tells as ever.
func TestStepBehindEnd(t *testing.T) {
	trial.EachChain(func(length, place int) {
		for _, isFull := range []bool{true, false} {
			m := trial.Busy(t, length+2, 2, 8)
			trial.Lay(t, m, trial.CellOf(m, key), chain(8, length, place)...)
			if isFull {
				trial.Fill(t, m)
			}
			p := New(0, key, val)
			mem.Finish(m, p, 99)
			is := told{p.Err(), p.Had(), p.Mine()}
			trial.Ahead(t, m, New(0, key, "newer"), begun, "another put")
			before := trial.Look(m)
			for range 9 {
				if !p.Ready(m) {
					t.Fatal("it isn't ready")
				}
				p.Step(m)
			}
			before.Check(t, m, "behind the end")
			checkTold(t, p, is, "behind the end")
		}
	})
}

// The document's example: into an arena of one place a put of a, and one of b: ErrFull; one of a again: ErrFull, too.
func TestExample(t *testing.T) {
	m, _ := mem.New(1, 2)
	put(t, m, 0, "a", "x", api.OK)
	put(t, m, 0, "b", "y", api.ErrFull)
	put(t, m, 0, "a", "z", api.ErrFull)
	got(t, m, "a", "x", true, "the example")
	got(t, m, "b", "", false, "the example")
}
