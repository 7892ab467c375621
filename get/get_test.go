package get

import (
	"fmt"
	"slices"
	"testing"

	"quietus/api"
	"quietus/arena"
	"quietus/fnv"
	"quietus/mem"
	"quietus/qsbr"
	"quietus/trial"
)

// These are written out, so that the tests don't lean on the names that they hold.
const (
	mostWorkers  = 8
	mostNodes    = 1024
	mostBuckets  = 65536
	periodCell   = 0
	currentCell  = 1
	firstCounter = 2
	periodLock   = 0
	// far is how far apart the handles of one place are, from one generation to the next.
	far = 65536
	// around is how many steps a get takes beside those that read a node.
	around = 5
	// begun is how many of them are ahead of the first node.
	begun = 4
	// key and val are of what most gets look for.
	key = "k"
	val = "v"
)

// A get is a frame.
var _ mem.Frame = (*Get)(nil)

// newMem is a memory of which a table of n buckets counts, with a period of its own, one that waits, and all locks held, so that it is to be seen if they are touched, and that no get waits for them. All workers but the first are in.
func newMem(t *testing.T, room, workers, n int) *mem.Mem {
	t.Helper()
	m, e := mem.New(room, workers)
	if m == nil || e != api.OK {
		t.Fatalf("mem.New(%d, %d) = %v, %v", room, workers, m, e)
	}
	trial.Count(m, trial.NewTable(t, m, n))
	m.Cells.Store(periodCell, 7)
	for worker := 1; worker < workers; worker++ {
		m.Cells.Store(firstCounter+worker, 3)
	}
	m.Retire(far)
	for lock := range m.Locks.Len() {
		m.Locks.Try(lock, lock)
	}
	return m
}

// yes is the node that most gets look for.
func yes() arena.Node { return trial.NewNode(key, val) }

// told is what a get tells.
type told struct {
	val  string
	had  bool
	read int
}

// checkTold says whether a get tells this, however often it is asked.
func checkTold(t *testing.T, g *Get, want told, what string) {
	t.Helper()
	for range 2 {
		val, had := g.Val()
		if is := (told{val, had, g.Read()}); is != want {
			t.Fatalf("%s: it tells %v, not %v", what, is, want)
		}
	}
}

// steps are the steps of one get, each of which is looked at, and what it has to tell.
type steps struct {
	t      *testing.T
	m      *mem.Mem
	g      *Get
	worker int
	period uint64
	want   told
}

// newSteps is a get that took no step, by which nothing is changed, and which tells nothing.
func newSteps(t *testing.T, m *mem.Mem, worker int, key string) *steps {
	t.Helper()
	before := trial.Look(m)
	s := &steps{t: t, m: m, g: New(worker, key), worker: worker}
	before.Check(t, m, "New")
	s.tells("New")
	return s
}

// tells says whether the get tells what it has to, by which nothing is changed.
func (s *steps) tells(what string) {
	s.t.Helper()
	before := trial.Look(s.m)
	checkTold(s.t, s.g, s.want, what)
	before.Check(s.t, s.m, what+", told")
}

// take takes a step that has to come to this memory, and by which the get is done, or not.
func (s *steps) take(want trial.Seen, done bool, what string) {
	s.t.Helper()
	before := trial.Look(s.m)
	s.g.Ready(s.m)
	before.Check(s.t, s.m, what+", Ready")
	trial.Step(s.t, s.m, s.g, done, what)
	want.Check(s.t, s.m, what)
	s.tells(what)
}

// still takes a step that changes nothing.
func (s *steps) still(what string) {
	s.t.Helper()
	s.take(trial.Look(s.m), false, what)
}

// load takes the first step: the period is loaded.
func (s *steps) load() {
	s.t.Helper()
	s.period, _ = s.m.Cells.Load(periodCell)
	s.still("the first step")
}

// comeIn takes the second step: what was loaded comes into the worker's counter.
func (s *steps) comeIn() {
	s.t.Helper()
	s.take(trial.Look(s.m).Counter(s.worker, s.period), false, "the second step")
}

// begin takes the steps ahead of the first node: those of coming in, one that loads the table's number, and one that loads the bucket's cell.
func (s *steps) begin() {
	s.t.Helper()
	s.load()
	s.comeIn()
	s.still("the third step")
	s.still("the fourth step")
}

// pass takes so many steps, each of which reads a node that isn't the one.
func (s *steps) pass(n int) {
	s.t.Helper()
	for range n {
		s.want.read++
		s.still("a step that reads a node")
	}
}

// find takes a step that reads the node that is looked for.
func (s *steps) find(val string) {
	s.t.Helper()
	s.want = told{val, true, s.want.read + 1}
	s.still("a step that finds a node")
}

// fail takes a step that finds a handle stale.
func (s *steps) fail() {
	s.t.Helper()
	want := trial.Look(s.m)
	want.Fault = true
	s.take(want, false, "a step at a stale handle")
}

// goOut takes the last step: the worker is out.
func (s *steps) goOut() {
	s.t.Helper()
	s.take(trial.Look(s.m).Counter(s.worker, 0), true, "the last step")
}

// finds takes all steps of a get that finds this behind so many nodes.
func (s *steps) finds(ahead int, val string) {
	s.t.Helper()
	s.begin()
	s.pass(ahead)
	s.find(val)
	s.goOut()
}

// misses takes all steps of a get that finds nothing among so many nodes.
func (s *steps) misses(nodes int) {
	s.t.Helper()
	s.begin()
	s.pass(nodes)
	s.goOut()
}

// P10.1, P10.2: of an empty table it is five steps, and nothing is found, whatever the worker, the key, and the number of buckets.
func TestEmpty(t *testing.T) {
	for workers := 1; workers <= mostWorkers; workers++ {
		for worker := range workers {
			for _, n := range []int{1, 2, 8, 64} {
				m := newMem(t, 2, workers, n)
				m.Cells.Store(firstCounter+worker, 0)
				for _, key := range []string{key, "", "another"} {
					newSteps(t, m, worker, key).misses(0)
				}
			}
		}
	}
	newSteps(t, newMem(t, 1, 1, mostBuckets), 0, key).misses(0)
}

// P10.1, P10.2: of a chain of one node, and of many, with the key at each place, each step does what the chapter says, changes nothing else, and the get tells so ahead of it, between the steps, and behind the last one.
func TestEachPlace(t *testing.T) {
	for _, n := range []int{1, 8} {
		for length := 1; length <= 7; length++ {
			for place := range length {
				m := newMem(t, length, 2, n)
				nodes := trial.Others(key, n, length)
				nodes[place] = yes()
				trial.Lay(t, m, trial.CellOf(m, key), nodes...)
				newSteps(t, m, 0, key).finds(place, val)
			}
		}
	}
}

// P10.1, P10.2: of a chain without the key each node is read, and nothing is found.
func TestNotThere(t *testing.T) {
	for _, n := range []int{1, 8} {
		for length := 1; length <= 7; length++ {
			m := newMem(t, length, 2, n)
			trial.Lay(t, m, trial.CellOf(m, key), trial.Others(key, n, length)...)
			newSteps(t, m, 0, key).misses(length)
		}
	}
}

// P10.2: so many steps they are of the longest chain, too.
func TestHowMany(t *testing.T) {
	nodes := trial.Others(key, 2, mostNodes)
	for _, length := range []int{0, 1, 2, 3, 100, mostNodes - 1, mostNodes} {
		m := newMem(t, mostNodes, 1, 2)
		trial.Lay(t, m, trial.CellOf(m, key), nodes[:length]...)
		g := New(0, key)
		trial.Finish(t, m, g, around+length, "the key isn't there")
		checkTold(t, g, told{read: length}, "the key isn't there")
		for place, node := range nodes[:length] {
			g := New(0, node.Key)
			trial.Finish(t, m, g, around+place+1, "the key is there")
			checkTold(t, g, told{node.Val, true, place + 1}, "the key is there")
		}
	}
}

// checkIn says whether this worker is in, or out, as it is said, and all others are as newMem has them be.
func checkIn(t *testing.T, m *mem.Mem, worker int, in bool, what string) {
	t.Helper()
	var want []int
	for other := range m.Workers() {
		if other == worker && in || other != worker && other != 0 {
			want = append(want, other)
		}
	}
	if is := trial.In(m); !slices.Equal(is, want) || qsbr.In(m, worker) != in {
		t.Fatalf("%s: these are in: %v, not %v", what, is, want)
	}
}

// P10.2: the worker is out ahead of the first step, and behind it, in from the second step on, and out by the last one; others stay as they were.
func TestInAndOut(t *testing.T) {
	for workers := 1; workers <= mostWorkers; workers++ {
		for worker := range workers {
			for length := range 4 {
				m := newMem(t, 4, workers, 8)
				m.Cells.Store(firstCounter+worker, 0)
				trial.Lay(t, m, trial.CellOf(m, key), trial.Others(key, 8, length)...)
				g := New(worker, key)
				last := around + length - 1
				for i := range last + 1 {
					checkIn(t, m, worker, i >= 2, fmt.Sprintf("ahead of the step %d", i))
					trial.Step(t, m, g, i == last, "a step")
				}
				checkIn(t, m, worker, false, "behind the last step")
			}
		}
	}
}

// P10.1: of two nodes of the same key the first is found.
func TestFirstOfTwo(t *testing.T) {
	for ahead := range 3 {
		for between := range 3 {
			m := newMem(t, 8, 2, 1)
			o := trial.Others(key, 1, ahead+between)
			nodes := append(slices.Clone(o[:ahead]), trial.NewNode(key, "first"))
			nodes = append(append(nodes, o[ahead:]...), trial.NewNode(key, "second"))
			trial.Lay(t, m, trial.CellOf(m, key), nodes...)
			newSteps(t, m, 0, key).finds(ahead, "first")
		}
	}
}

// P10.1: what is found has both the key and its sum: nodes of the same sum and another key, or of the key and another sum, aren't it.
func TestBothKeyAndSum(t *testing.T) {
	otherKey := arena.Node{Key: "l", Val: "other key", Sum: fnv.Sum(key)}
	otherSum := arena.Node{Key: key, Val: "other sum", Sum: fnv.Sum(key) + 8}
	itsVal := arena.Node{Key: "l", Val: key, Sum: fnv.Sum(key)}
	for _, nodes := range [][]arena.Node{{otherKey}, {otherSum}, {itsVal}, {{}}, {otherKey, otherSum, itsVal, {}}} {
		m := newMem(t, 6, 2, 8)
		l := trial.Lay(t, m, trial.CellOf(m, key), nodes...)
		newSteps(t, m, 0, key).misses(len(nodes))
		trial.Join(t, m, trial.CellOf(m, key), l, len(nodes), trial.Alloc(t, m, yes()))
		newSteps(t, m, 0, key).finds(len(nodes), val)
	}
}

// P10.1: of keys of one bucket whose sums differ each is found.
func TestOfOneBucket(t *testing.T) {
	const length = 6
	for _, n := range []int{1, 2, 16} {
		m := newMem(t, length, 2, n)
		nodes := trial.Others(key, n, length)
		trial.Lay(t, m, trial.CellOf(m, key), nodes...)
		for place, node := range nodes {
			newSteps(t, m, 0, node.Key).finds(place, node.Val)
		}
	}
}

// P10.1: whatever the key is, the empty one, too, just its own node is found, among those of all others, of tables of one bucket and of many.
func TestKeys(t *testing.T) {
	for _, n := range []int{1, 2, 8, 1024, mostBuckets} {
		m := newMem(t, len(trial.Keys()), 1, n)
		places := map[int][]arena.Handle{}
		for i, key := range trial.Keys() {
			cell := trial.CellOf(m, key)
			trial.Join(t, m, cell, places[cell], len(places[cell]), trial.Alloc(t, m, trial.NewNode(key, fmt.Sprint(i))))
			places[cell] = append(places[cell], arena.Handle(i+1))
		}
		for i, key := range trial.Keys() {
			place := slices.Index(places[trial.CellOf(m, key)], arena.Handle(i+1))
			g := New(0, key)
			trial.Finish(t, m, g, around+place+1, "a key that is there")
			checkTold(t, g, told{fmt.Sprint(i), true, place + 1}, "a key that is there")
		}
		g := New(0, "none")
		read := len(places[trial.CellOf(m, "none")])
		trial.Finish(t, m, g, around+read, "a key that isn't there")
		checkTold(t, g, told{read: read}, "a key that isn't there")
	}
}

// P10.1: whatever the Val is, it is what Val tells; an empty one, too, beside true.
func TestVals(t *testing.T) {
	for _, val := range append(trial.Keys(), key) {
		m := newMem(t, 2, 2, 8)
		trial.Lay(t, m, trial.CellOf(m, key), trial.Others(key, 8, 1)[0], trial.NewNode(key, val))
		newSteps(t, m, 0, key).finds(1, val)
	}
}

// P10.1: the bucket is that of the key's sum, of the table's number of buckets: a node of that key and sum in another bucket isn't found.
func TestWhichBucket(t *testing.T) {
	for _, c := range trial.Homes() {
		m := newMem(t, 2, 1, c.N)
		right := trial.Alloc(t, m, arena.Node{Key: c.Key, Val: "right", Sum: c.Sum})
		wrong := trial.Alloc(t, m, arena.Node{Key: c.Key, Val: "wrong", Sum: c.Sum})
		for bucket := range c.N {
			trial.Put(t, m, m.Now().Base+bucket, wrong)
		}
		trial.Put(t, m, m.Now().Base+c.Bucket, right)
		g := New(0, c.Key)
		trial.Finish(t, m, g, around+1, c.Key)
		checkTold(t, g, told{"right", true, 1}, c.Key)
		trial.Put(t, m, m.Now().Base+c.Bucket, 0)
		g = New(0, c.Key)
		trial.Finish(t, m, g, around, c.Key)
		checkTold(t, g, told{}, c.Key)
	}
}

// newTables is a memory of tables of these numbers of buckets, from table 1 on, of which the last one counts, and which have the key, each with its number as the Val.
func newTables(t *testing.T, sizes ...int) *mem.Mem {
	t.Helper()
	m := newMem(t, len(sizes)+1, 2, sizes[0])
	for _, n := range sizes[1:] {
		trial.Count(m, trial.NewTable(t, m, n))
	}
	for number := range len(sizes) + 1 {
		desc, _ := m.Desc(number)
		trial.Lay(t, m, trial.CellIn(desc, key), trial.NewNode(key, fmt.Sprint(number)))
	}
	return m
}

// P10.1: the table that counts is what is looked through, whichever it is.
func TestWhichTable(t *testing.T) {
	m := newTables(t, 8, 1, 2, 8, 1024)
	for number := range 6 {
		trial.Count(m, number)
		newSteps(t, m, 0, key).finds(0, fmt.Sprint(number))
	}
}

// P10.1: a table that comes to count ahead of the step that loads cell 1 is what is looked through; one that comes to count behind it isn't.
func TestOtherTable(t *testing.T) {
	for _, sizes := range [][]int{{1, 8}, {8, 1}, {8, 8}, {2, 4}, {4, 2}} {
		for behind := range around + 2 {
			m := newTables(t, sizes...)
			s := newSteps(t, m, 0, key)
			found := "2"
			all := []func(){s.load, s.comeIn, func() { s.still("the third step") }, func() { s.still("the fourth step") }, func() { s.find(found) }, s.goOut}
			for i, step := range all {
				if i == behind {
					trial.Count(m, 1)
					s.tells("another table counts")
				}
				if i == 2 && behind <= 2 {
					found = "1"
				}
				step()
			}
			trial.Count(m, 0)
			s.tells("another table counts, behind the last step")
		}
	}
}

// P10.1: it is the last one of those that come to count ahead of that step, one that is made meanwhile, too; how many come to count behind it doesn't matter.
func TestManyTables(t *testing.T) {
	m := newTables(t, 8, 2)
	s := newSteps(t, m, 0, key)
	trial.Count(m, 0)
	s.load()
	trial.Count(m, 1)
	s.comeIn()
	made := trial.NewTable(t, m, 4)
	trial.Count(m, made)
	desc, _ := m.Desc(made)
	trial.Put(t, m, trial.CellIn(desc, key), 2)
	s.still("the third step")
	trial.Count(m, 0)
	trial.Count(m, trial.NewTable(t, m, 1))
	s.still("the fourth step")
	trial.Count(m, 2)
	s.find("1")
	trial.Count(m, made)
	s.goOut()
}

// P10.1: the table's cell is loaded by the fourth step: what comes into it ahead of that is seen, what comes into it behind that isn't.
func TestCellAheadAndBehind(t *testing.T) {
	for behind := range begun + 2 {
		m := newMem(t, 3, 2, 8)
		l := trial.Lay(t, m, trial.CellOf(m, key), trial.NewNode(key, "elder"))
		newer := trial.Alloc(t, m, trial.NewNode(key, "newer"))
		s := newSteps(t, m, 0, key)
		for i, step := range []func(){s.load, s.comeIn, func() { s.still("the third step") }, func() { s.still("the fourth step") }} {
			if i == behind {
				trial.Put(t, m, trial.CellOf(m, key), newer)
			}
			step()
		}
		if behind >= begun {
			trial.Put(t, m, trial.CellOf(m, key), newer)
			s.find("elder")
		} else {
			trial.Free(t, m, l[0])
			s.find("newer")
		}
		s.goOut()
	}
}

// P10.1: the period is loaded by the first step, and is what comes into the counter, whichever it is by then, and whatever word.
func TestPeriodLoadedFirst(t *testing.T) {
	for _, word := range trial.Words() {
		m := newMem(t, 3, 2, 8)
		trial.Lay(t, m, trial.CellOf(m, key), yes())
		s := newSteps(t, m, 0, key)
		m.Cells.Store(periodCell, word)
		s.load()
		m.Cells.Store(periodCell, word+1)
		s.comeIn()
		m.Cells.Store(periodCell, word+2)
		s.still("the third step")
		s.still("the fourth step")
		s.find(val)
		m.Cells.Store(periodCell, 0)
		s.goOut()
	}
}

// all are all steps of a get that finds the key at the second place.
func (s *steps) all() []func() {
	third, fourth := func() { s.still("the third step") }, func() { s.still("the fourth step") }
	return []func(){s.load, s.comeIn, third, fourth, func() { s.pass(1) }, func() { s.find(val) }, s.goOut}
}

// newPeriods is a memory whose period's lock is free, with the key at the second place.
func newPeriods(t *testing.T) *mem.Mem {
	t.Helper()
	m := newMem(t, 2, 2, 8)
	m.Locks.Free(periodLock, periodLock)
	trial.Lay(t, m, trial.CellOf(m, key), append(trial.Others(key, 8, 1), yes())...)
	return m
}

// P10.1, P10.2: a wait that begins ahead of whichever step isn't done as long as the get is in, and ends as soon as it is out; the get goes on as ever.
func TestPeriodBegins(t *testing.T) {
	for behind := range around + 3 {
		m := newPeriods(t)
		m.Cells.Store(firstCounter+1, 0)
		s, w := newSteps(t, m, 0, key), qsbr.Sync(2)
		all := s.all()
		in := behind >= 2 && behind < len(all)
		for i := range len(all) + 1 {
			if i == behind {
				if n, done := mem.Finish(m, w, 99); done == in {
					t.Fatalf("behind %d steps of the get: Finish = %d, %v", i, n, done)
				}
				s.tells("a wait began")
			}
			if i == len(all) {
				break
			}
			all[i]()
			if in && i >= behind && w.Ready(m) != (i == len(all)-1) {
				t.Fatalf("behind %d steps of the get: Ready = %v", i+1, w.Ready(m))
			}
		}
		if in {
			trial.Finish(t, m, w, 3, "the wait's steps that are left")
		}
	}
}

// P10.1, P10.2: of a wait that ends, since another worker goes out, the get is waited for just if it loaded the period ahead of that one's rise, and is in.
func TestPeriodEnds(t *testing.T) {
	for rise := range around + 2 {
		for end := rise; end < around+2; end++ {
			m := newPeriods(t)
			s, w := newSteps(t, m, 0, key), qsbr.Sync(2)
			all := s.all()
			for _, step := range all[:rise] {
				step()
			}
			trial.Ahead(t, m, w, 2, "the lock, and the rise")
			for _, step := range all[rise:end] {
				step()
			}
			trial.Finish(t, m, qsbr.Leave(1), 1, "Leave")
			waited := rise > 0 && end >= 2
			if n, done := mem.Finish(m, w, 99); done == waited {
				t.Fatalf("risen behind %d steps of the get, behind %d: Finish = %d, %v", rise, end, n, done)
			}
			for _, step := range all[end:] {
				step()
			}
			if waited {
				trial.Finish(t, m, w, 3, "the wait's steps that are left")
			}
		}
	}
}

// P10.1: what Val tells is the node's as it was read, though it is linked or freed later, its place taken again, or the table empty by then.
func TestValAsRead(t *testing.T) {
	m := newMem(t, 3, 2, 8)
	o := trial.Others(key, 8, 2)
	l := trial.Lay(t, m, trial.CellOf(m, key), o[0], yes(), o[1])
	s := newSteps(t, m, 0, key)
	s.begin()
	s.pass(1)
	s.find(val)
	trial.Link(t, m, l[1], l[0])
	s.tells("linked")
	trial.Link(t, m, l[0], l[2])
	s.tells("linked past")
	trial.Free(t, m, l[1])
	s.tells("freed")
	trial.Alloc(t, m, trial.NewNode(key, "w"))
	s.tells("its place taken again")
	s.goOut()
	trial.Put(t, m, trial.CellOf(m, key), 0)
	trial.Free(t, m, l[0])
	trial.Free(t, m, l[2])
	s.tells("all freed")
}

// P10.1: a node that is freed while the get stands ahead of it, its place taken again or not, by whatever node: nothing is found, the flag is up, what was read stays told, and it goes out by the step behind that.
func TestFreedAhead(t *testing.T) {
	again, empty := yes(), arena.Node{}
	for place := range 4 {
		for _, taken := range []*arena.Node{nil, &again, &empty} {
			m := newMem(t, 5, 2, 8)
			l := trial.Lay(t, m, trial.CellOf(m, key), append(trial.Others(key, 8, 3), yes())...)
			s := newSteps(t, m, 0, key)
			s.begin()
			s.pass(place)
			trial.Free(t, m, l[place])
			if taken != nil {
				trial.Alloc(t, m, *taken)
			}
			s.tells("freed")
			s.fail()
			s.goOut()
		}
	}
}

// P10.1: a node that is freed behind its being read doesn't matter: the get goes on with the Next that it had.
func TestFreedBehind(t *testing.T) {
	for _, again := range []bool{false, true} {
		m := newMem(t, 4, 2, 8)
		l := trial.Lay(t, m, trial.CellOf(m, key), append(trial.Others(key, 8, 3), yes())...)
		s := newSteps(t, m, 0, key)
		s.begin()
		for _, h := range l[:3] {
			s.pass(1)
			trial.Free(t, m, h)
			if again {
				trial.Alloc(t, m, yes())
			}
		}
		s.find(val)
		s.goOut()
	}
}

// P10.1: a word in the bucket's cell that is no node's handle, and a Next that is none: by the step that would read its node nothing is found, and the flag is up.
func TestNoHandle(t *testing.T) {
	for _, word := range trial.Words() {
		for length := range 3 {
			m := newMem(t, 3, 2, 8)
			trial.Alloc(t, m, yes())
			h := arena.Handle(word)
			l := trial.Lay(t, m, trial.CellOf(m, key), trial.Others(key, 8, length)...)
			if h == 0 || m.Arena.Live(h) {
				continue
			}
			trial.Join(t, m, trial.CellOf(m, key), l, length, h)
			s := newSteps(t, m, 0, key)
			s.begin()
			s.pass(length)
			s.fail()
			s.goOut()
		}
	}
}

// P10.1: a stale handle in the bucket's cell can't be read, whether its place is free, or taken again, by a node of the key, too.
func TestStaleInCell(t *testing.T) {
	for _, again := range []bool{false, true} {
		m := newMem(t, 2, 2, 8)
		l := trial.Lay(t, m, trial.CellOf(m, key), yes())
		trial.Free(t, m, l[0])
		if again {
			trial.Alloc(t, m, yes())
		}
		s := newSteps(t, m, 0, key)
		s.begin()
		s.fail()
		s.goOut()
	}
}

// P10.1: a node is read as it is by the step that reads it, not ahead of that: a Next that is another one by then is what it goes on with, once, and the Val that it has.
func TestReadsLate(t *testing.T) {
	m := newMem(t, 5, 2, 8)
	o := trial.Others(key, 8, 3)
	l := trial.Lay(t, m, trial.CellOf(m, key), o[0], o[1], yes())
	s := newSteps(t, m, 0, key)
	s.begin()
	in := o[2]
	in.Next = l[2]
	h := trial.Alloc(t, m, in)
	trial.Link(t, m, l[0], h)
	s.pass(1)
	trial.Link(t, m, l[0], 0)
	trial.Free(t, m, l[1])
	s.pass(1)
	s.find(val)
	s.goOut()
}

// P10.1: a node that comes ahead of all behind the fourth step isn't seen; one that comes in where the get is yet to come is.
func TestPutIn(t *testing.T) {
	m := newMem(t, 4, 2, 8)
	l := trial.Lay(t, m, trial.CellOf(m, key), trial.Others(key, 8, 2)...)
	m.Cells.Store(firstCounter+1, 0)
	s, o := newSteps(t, m, 0, key), newSteps(t, m, 1, key)
	s.begin()
	o.begin()
	o.pass(1)
	node := yes()
	node.Next = l[0]
	h := trial.Alloc(t, m, node)
	trial.Put(t, m, trial.CellOf(m, key), h)
	s.pass(1)
	trial.Put(t, m, trial.CellOf(m, key), l[0])
	trial.Link(t, m, l[1], h)
	trial.Link(t, m, h, 0)
	s.pass(1)
	s.find(val)
	s.goOut()
	trial.Link(t, m, l[1], 0)
	o.pass(1)
	o.goOut()
}

// P10.1: with the flag up from the beginning on a get goes as ever.
func TestFlagUp(t *testing.T) {
	m := newMem(t, 3, 2, 8)
	m.Arena.Read(0)
	trial.Lay(t, m, trial.CellOf(m, key), append(trial.Others(key, 8, 1), yes())...)
	newSteps(t, m, 0, key).finds(1, val)
	newSteps(t, m, 0, "none").misses(len(m.Chain(trial.BucketOf("none", 8))))
}

// P10.1: gets of one worker, one after the other, know nothing of each other.
func TestOneAfterTheOther(t *testing.T) {
	m := newMem(t, 3, 1, 1)
	for i := range 3 {
		newSteps(t, m, 0, key).misses(i)
		next, _ := m.Cells.Load(trial.CellOf(m, key))
		node := trial.NewNode(fmt.Sprint(i), "x")
		node.Next = arena.Handle(next)
		trial.Put(t, m, trial.CellOf(m, key), trial.Alloc(t, m, node))
		newSteps(t, m, 0, fmt.Sprint(i)).finds(0, "x")
		newSteps(t, m, 0, "0").finds(i, "x")
	}
}

// P10.1, P10.2: two gets beside each other, of two workers, for one key or for two, know nothing of each other; as the one goes out, the other stays in.
func TestTwoGets(t *testing.T) {
	for _, other := range []int{0, 1, 2} {
		m := newMem(t, 3, 2, 8)
		m.Cells.Store(firstCounter+1, 0)
		nodes := trial.Others(key, 8, 3)
		trial.Lay(t, m, trial.CellOf(m, key), nodes...)
		one, two := newSteps(t, m, 0, nodes[2].Key), newSteps(t, m, 1, nodes[other].Key)
		one.load()
		two.load()
		m.Cells.Store(periodCell, 9)
		two.comeIn()
		one.comeIn()
		for _, s := range []*steps{one, two} {
			s.still("the third step")
			s.still("the fourth step")
		}
		one.pass(1)
		two.pass(other)
		two.find(nodes[other].Val)
		one.tells("behind the other one's steps")
		two.goOut()
		if in := trial.In(m); !slices.Equal(in, []int{0}) {
			t.Fatalf("behind the other one's end these are in: %v", in)
		}
		one.pass(1)
		one.find(nodes[2].Val)
		one.goOut()
		two.tells("behind the other one's end")
	}
}

// R3: gets of two memories know nothing of each other, though their workers, cells and handles are the same.
func TestTwoMemories(t *testing.T) {
	m, o := newMem(t, 2, 2, 8), newMem(t, 2, 2, 8)
	trial.Lay(t, m, trial.CellOf(m, key), append(trial.Others(key, 8, 1), yes())...)
	l := trial.Lay(t, o, trial.CellOf(o, key), trial.Others(key, 8, 2)...)
	one, two := newSteps(t, m, 0, key), newSteps(t, o, 0, key)
	one.begin()
	two.begin()
	two.pass(1)
	one.pass(1)
	trial.Free(t, o, l[1])
	one.find(val)
	two.fail()
	two.goOut()
	one.goOut()
	if m.Arena.Fault() {
		t.Error("the flag of the other one is up")
	}
}

// R1: of a chain that comes back, to whichever node, steps can be taken on and on, each of which ends, and reads a node; once it is cut, the get comes to its end.
func TestRound(t *testing.T) {
	const length = 3
	for back := range length {
		m := newMem(t, length, 2, 8)
		l := trial.Lay(t, m, trial.CellOf(m, key), trial.Others(key, 8, length)...)
		trial.Link(t, m, l[length-1], l[back])
		s := newSteps(t, m, 0, key)
		s.begin()
		s.pass(200)
		if n, done := mem.Finish(m, s.g, 5000); n != 5000 || done {
			t.Fatalf("Finish = %d, %v", n, done)
		}
		s.want.read += 5000
		for _, h := range l {
			trial.Link(t, m, h, 0)
		}
		s.pass(1)
		s.goOut()
	}
}

// R1: steps behind the last one don't panic, and change nothing, though another get of that worker is on its way; it is ready as ever, and tells what it told.
func TestStepBehindEnd(t *testing.T) {
	for _, key := range []string{key, "none"} {
		m := newMem(t, 2, 2, 1)
		trial.Lay(t, m, trial.CellOf(m, key), append(trial.Others(key, 1, 1), yes())...)
		g := New(0, key)
		mem.Finish(m, g, 99)
		val, had := g.Val()
		is := told{val, had, g.Read()}
		trial.Ahead(t, m, New(0, key), begun, "another get")
		before := trial.Look(m)
		for range 9 {
			if !g.Ready(m) {
				t.Fatal("it isn't ready")
			}
			g.Step(m)
		}
		before.Check(t, m, "behind the end")
		checkTold(t, g, is, "behind the end")
	}
}

// P10.1: of a number that no table has there is no chain: it is five steps, nothing is found, and the flag stays down, though all cells, the period's, too, have the node's handle, and though its table comes to count, or to be, behind that.
func TestWrongNumber(t *testing.T) {
	for _, number := range trial.WrongNumbers(2) {
		m := newMem(t, 2, 2, 8)
		h := trial.Alloc(t, m, yes())
		for cell := range m.Cells.Len() {
			if cell == currentCell || cell == firstCounter {
				continue
			}
			trial.Put(t, m, cell, h)
		}
		m.Cells.Store(currentCell, number)
		newSteps(t, m, 0, key).misses(0)
		newSteps(t, m, 0, "").misses(0)

		s := newSteps(t, m, 0, key)
		s.load()
		s.comeIn()
		s.still("the third step")
		trial.Count(m, 1)
		s.still("the fourth step")
		s.goOut()

		s = newSteps(t, m, 0, key)
		m.Cells.Store(currentCell, number)
		s.load()
		s.comeIn()
		trial.Count(m, 1)
		s.still("the third step")
		m.Cells.Store(currentCell, number)
		s.still("the fourth step")
		s.find(val)
		s.goOut()
	}
}

// R1: of a worker that there isn't, below 0 or beyond the last one, all calls end, and none panics.
func TestNoWorker(t *testing.T) {
	for _, worker := range append(trial.NotWorkers(), 3, 4, 5) {
		m := newMem(t, 3, 3, 2)
		trial.Lay(t, m, trial.CellOf(m, key), append(trial.Others(key, 2, 1), yes())...)
		g := New(worker, key)
		g.Val()
		g.Read()
		if n, done := mem.Finish(m, g, 99); !done || n < around {
			t.Fatalf("of the worker %d: Finish = %d, %v", worker, n, done)
		}
		g.Val()
		g.Read()
	}
}

// The document's example: of an empty table it is 5 steps, and nothing is found.
func TestExample(t *testing.T) {
	m, _ := mem.New(2, 2)
	g := New(1, key)
	if n, done := mem.Finish(m, g, 99); n != 5 || !done {
		t.Fatalf("Finish = %d, %v", n, done)
	}
	if val, had := g.Val(); val != "" || had || g.Read() != 0 {
		t.Fatalf("Val = %q, %v, Read = %d", val, had, g.Read())
	}
}
