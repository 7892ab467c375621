package get

import (
	"fmt"
	"slices"
	"testing"

	"quietus/arena"
	"quietus/fnv"
	"quietus/mem"
	"quietus/retire"
	"quietus/trial"
)

// Where a plain get is.
const (
	atPeriod = iota
	atCounter
	atTable
	atCell
	atNode
	atOut
	atEnd
)

// noWhere is the cell of no bucket.
const noWhere = -1

// plain is a get told by its chapter's words.
type plain struct {
	worker int
	key    string
	at     int
	period uint64
	cell   int
	// ahead is the handle that it stands ahead of.
	ahead arena.Handle
	told  told
}

// step is what the get's step has to come to, from a memory that is as it is ahead of that, and whether the get is done by it.
func (p *plain) step(m *mem.Mem) (want trial.Seen, done bool) {
	want = trial.Look(m)
	switch p.at {
	case atPeriod:
		p.period, p.at = want.Words[periodCell], atCounter
	case atCounter:
		want, p.at = want.Counter(p.worker, p.period), atTable
	case atTable:
		p.cell, p.at = noWhere, atCell
		if number := want.Words[currentCell]; number < uint64(len(want.Tables)) {
			p.cell = trial.CellIn(want.Tables[number], p.key)
		}
	case atCell:
		if p.cell != noWhere {
			p.ahead = arena.Handle(want.Words[p.cell])
		}
		p.goOn()
	case atNode:
		want.Fault = !p.read(m) || want.Fault
	case atOut:
		want, p.at, done = want.Counter(p.worker, 0), atEnd, true
	}
	return want, done
}

// goOn has it stand ahead of the next node, or of going out, if there is none.
func (p *plain) goOn() {
	p.at = atNode
	if p.ahead == 0 {
		p.at = atOut
	}
}

// read is a step that reads a node, if that is live. It uses no handle that isn't.
func (p *plain) read(m *mem.Mem) bool {
	if !m.Arena.Live(p.ahead) {
		p.at = atOut
		return false
	}
	node, _ := m.Arena.Read(p.ahead)
	p.told.read++
	if node.Key == p.key && node.Sum == fnv.Sum(p.key) {
		p.told.val, p.told.had, p.at = node.Val, true, atOut
		return true
	}
	p.ahead = node.Next
	p.goOn()
	return true
}

// pair is a get, and the plain one that tells what it has to do.
type pair struct {
	g *Get
	p *plain
}

// newPair is a pair that took no step.
func newPair(worker int, key string) *pair {
	return &pair{New(worker, key), &plain{worker: worker, key: key}}
}

// step has a get take its step, and says whether it is done: it does what the plain one tells, and nothing else.
func (x *pair) step(t *testing.T, m *mem.Mem, take func() bool) bool {
	t.Helper()
	what := fmt.Sprintf("a step of a get of %q", x.p.key)
	if !x.g.Ready(m) {
		t.Fatalf("%s: it isn't ready", what)
	}
	want, done := x.p.step(m)
	if is := take(); is != done {
		t.Fatalf("%s: Step = %v", what, is)
	}
	want.Check(t, m, what)
	return done
}

// change is a key that comes to have a value, or that is taken out.
type change struct {
	key string
	out bool
}

// changer makes changes, one after the other: each is a step that changes the chain, and, if a node is out of it by that, one by which that comes to wait.
type changer struct {
	t    *testing.T
	left []change
	// out is what it put out, and what doesn't wait yet.
	out arena.Handle
}

// Ready says whether it can take its step: with no place left for a node it can't.
func (c *changer) Ready(m *mem.Mem) bool { return c.out != 0 || c.left[0].out || m.Arena.Spare() > 0 }

// Step takes its step.
func (c *changer) Step(m *mem.Mem) bool {
	if c.out == 0 {
		now := c.left[0]
		c.left = c.left[1:]
		c.make(m, now)
	} else {
		m.Retire(c.out)
		c.out = 0
	}
	return c.out == 0 && len(c.left) == 0
}

// make makes a change. A value is another one each time.
func (c *changer) make(m *mem.Mem, now change) {
	l := m.Chain(trial.BucketOf(now.key, m.Now().N))
	place := slices.IndexFunc(l, func(h arena.Handle) bool { return trial.KeyOf(m, h) == now.key })
	rest := slices.Concat(l, []arena.Handle{0})
	switch {
	case place >= 0 && now.out:
		trial.Join(c.t, m, trial.CellOf(m, now.key), l, place, rest[place+1])
		c.out = l[place]
	case place >= 0:
		c.put(m, now.key, l, place, rest[place+1])
		c.out = l[place]
	case !now.out:
		c.put(m, now.key, l, 0, rest[0])
	}
}

// put has a new node stand at a place.
func (c *changer) put(m *mem.Mem, key string, l []arena.Handle, place int, next arena.Handle) {
	node := trial.NewNode(key, fmt.Sprint(key, len(c.left)))
	node.Next = next
	trial.Join(c.t, m, trial.CellOf(m, key), l, place, trial.Alloc(c.t, m, node))
}

// flight is a get that is on its way, and what its key has had since it began.
type flight struct {
	*pair
	since []told
}

// plan is what a world has: a room, a number of buckets, keys that are there from the beginning on, each worker's gets, and changes.
type plan struct {
	room, n int
	keys    string
	gets    []string
	changes []change
	// others are steps of somebody else.
	others []trial.Act
}

// world is threads on one memory: workers that get, one that makes changes, one that does something else, and one that frees.
type world struct {
	t       *testing.T
	m       *mem.Mem
	threads []*trial.Thread
	flights map[mem.Frame]*flight
}

// newWorld is a world of a plan.
func newWorld(t *testing.T, plan plan) *world {
	t.Helper()
	m, _ := mem.New(plan.room, len(plan.gets))
	trial.Count(m, trial.NewTable(t, m, plan.n))
	w := &world{t: t, m: m, flights: map[mem.Frame]*flight{}}
	for _, key := range plan.keys {
		l := m.Chain(trial.BucketOf(string(key), plan.n))
		trial.Join(t, m, trial.CellOf(m, string(key)), l, len(l), trial.Alloc(t, m, trial.NewNode(string(key), "first")))
	}
	for worker, gets := range plan.gets {
		var makers []func() mem.Frame
		for _, key := range gets {
			makers = append(makers, func() mem.Frame { return w.get(worker, string(key)) })
		}
		w.thread(makers...)
	}
	if len(plan.others) > 0 {
		w.thread(trial.MakeActs(plan.others...))
	}
	if len(plan.changes) > 0 {
		w.thread(func() mem.Frame { return &changer{t: t, left: plan.changes} })
		w.thread(slices.Repeat([]func() mem.Frame{func() mem.Frame { return retire.New(len(plan.gets)) }}, len(plan.changes))...)
	}
	return w
}

// thread has a thread more.
func (w *world) thread(makers ...func() mem.Frame) {
	w.threads = append(w.threads, &trial.Thread{Makers: makers})
}

// get is a get of a worker.
func (w *world) get(worker int, key string) mem.Frame {
	x := newPair(worker, key)
	w.flights[x.g] = &flight{pair: x}
	return x.g
}

// Ready are the threads that are ready.
func (w *world) Ready() []int { return trial.Ready(w.m, w.threads) }

// Step has a thread take its step, and looks at P10.1 and P10.2.
func (w *world) Step(i int) {
	w.t.Helper()
	take := func() bool {
		_, done := w.threads[i].Step(w.m)
		return done
	}
	x, done := w.flights[w.threads[i].Next()], false
	if x == nil {
		take()
	} else {
		w.since(x)
		done = x.step(w.t, w.m, take)
	}
	for _, x := range w.flights {
		checkTold(w.t, x.g, x.p.told, "a get of "+x.p.key)
		if x.p.at != atPeriod {
			w.since(x)
		}
	}
	if w.m.Arena.Fault() {
		w.t.Fatal("the flag is up")
	}
	if done {
		w.ended(x)
	}
}

// since keeps what a get's key has now.
func (w *world) since(x *flight) {
	val, had := trial.ValOf(w.m, x.p.key)
	x.since = append(x.since, told{val: val, had: had})
}

// ended says whether what a get found is what its key had at some time since it began.
func (w *world) ended(x *flight) {
	w.t.Helper()
	val, had := x.g.Val()
	if !slices.Contains(x.since, told{val: val, had: had}) {
		w.t.Fatalf("a get of %q found %q, %v; meanwhile it had %v", x.p.key, val, had, x.since)
	}
	delete(w.flights, x.g)
}

// End says whether all threads are done, but drains for which nothing was left, and each place is free, or reached.
func (w *world) End() {
	w.t.Helper()
	for i, x := range w.threads {
		if !x.Left() {
			continue
		}
		if d, ok := x.Next().(*retire.Drain); !ok || len(d.Left()) > 0 {
			w.t.Fatalf("nobody is ready, thread %d isn't done", i)
		}
	}
	if w.m.Waiting() > 0 || w.m.Arena.Spare()+len(w.m.Reach()) != w.m.Arena.Room() {
		w.t.Fatalf("all are done, %d wait, %d are free, these are reached: %v", w.m.Waiting(), w.m.Arena.Spare(), w.m.Reach())
	}
}

// twoBuckets have a table of two buckets, both of which begin by the chain of the elder one, come to count, step by step, as one who grows does it, and the elder one again.
func twoBuckets() []trial.Act {
	store := func(bucket int) trial.Act {
		return trial.Act{Do: func(m *mem.Mem) {
			elder, _ := m.Desc(1)
			newer, _ := m.Desc(2)
			word, _ := m.Cells.Load(elder.Base)
			m.Cells.Store(newer.Base+bucket, word)
		}}
	}
	counts := func(number int) trial.Act { return trial.Act{Do: func(m *mem.Mem) { trial.Count(m, number) }} }
	return []trial.Act{{Do: func(m *mem.Mem) { m.Table(2) }}, store(0), store(1), counts(2), counts(1)}
}

// P10.1, P10.2: however the steps of gets, of one who puts in and takes out, and of one who frees what waits are mixed, each step does what the chapter says, and nothing else; each get finds what its key had at some time since it began, and none uses a node that was freed.
func TestAllWays(t *testing.T) {
	cases := []struct {
		name string
		plan plan
	}{
		{"two gets alone", plan{room: 4, n: 1, keys: "abc", gets: []string{"c", "b"}}},
		{"two gets alone, of two keys, and of none", plan{room: 4, n: 1, keys: "a", gets: []string{"ax", "a"}}},
		{"the first one is taken out", plan{room: 3, n: 1, keys: "abc", gets: []string{"c"}, changes: []change{{"a", true}}}},
		{"one within is taken out", plan{room: 3, n: 1, keys: "abc", gets: []string{"c"}, changes: []change{{"b", true}}}},
		{"the one is taken out", plan{room: 3, n: 1, keys: "abc", gets: []string{"b"}, changes: []change{{"b", true}}}},
		{"the one comes to have another value", plan{room: 4, n: 1, keys: "ab", gets: []string{"b"}, changes: []change{{"b", false}}}},
		{"one ahead does", plan{room: 4, n: 1, keys: "ab", gets: []string{"b"}, changes: []change{{"a", false}}}},
		{"the one is put in", plan{room: 4, n: 1, keys: "ab", gets: []string{"nnbn"}, changes: []change{{"n", false}}}},
		{"it is taken out, and put in its place", plan{room: 2, n: 1, keys: "ab", gets: []string{"b"}, changes: []change{{"b", true}, {"b", false}}}},
		{"one ahead is taken out, the one put in its place", plan{room: 2, n: 1, keys: "ab", gets: []string{"n"}, changes: []change{{"a", true}, {"n", false}}}},
		{"two gets, and one is put in", plan{room: 2, n: 2, keys: "a", gets: []string{"b", "a"}, changes: []change{{"b", false}}}},
		{"another table comes to count", plan{room: 3, n: 1, keys: "abc", gets: []string{"c"}, others: twoBuckets()}},
	}
	for _, c := range cases {
		if ends := trial.Explore(func() trial.World { return newWorld(t, c.plan) }); ends < 20 {
			t.Errorf("%s: there are %d ways alone", c.name, ends)
		}
	}
}

// manyKeys are the keys of plans that are picked.
const manyKeys = "abcdefgh"

// pickKeys are so many keys, in a row.
func pickKeys(next func(n int) int, n int) string {
	var l []byte
	for range n {
		l = append(l, manyKeys[next(len(manyKeys))])
	}
	return string(l)
}

// pickPlan is a plan of so many workers.
func pickPlan(next func(n int) int, workers int) plan {
	p := plan{room: len(manyKeys) + 1 + next(4), n: 1 << next(3), keys: manyKeys[:4+next(4)]}
	for range workers {
		p.gets = append(p.gets, pickKeys(next, 10))
	}
	for _, key := range pickKeys(next, 30) {
		p.changes = append(p.changes, change{string(key), next(2) == 0})
	}
	return p
}

// P10.1, P10.2: the same for gets of 1 to 8 workers, of one bucket or of many, in ways that are picked.
func TestManyWays(t *testing.T) {
	for workers := 1; workers <= mostWorkers; workers++ {
		for seed := range uint32(30) {
			next := trial.Picker(seed*mostWorkers + uint32(workers))
			trial.Run(newWorld(t, pickPlan(next, workers)), next)
		}
	}
}

// row is a row of steps of gets of its workers, one each.
type row struct {
	*trial.Row
	t     *testing.T
	pairs []*pair
}

// newPair is a pair of a worker.
func (r *row) newPair(worker int) *pair { return newPair(worker, r.Key()) }

// newRow is a row of so many workers.
func newRow(t *testing.T, workers int, seed uint32) *row {
	t.Helper()
	r := &row{Row: trial.NewRow(t, workers, seed), t: t}
	for worker := range workers {
		r.pairs = append(r.pairs, r.newPair(worker))
	}
	return r
}

// counted is how many gets of rows were done, found something, and came to a stale handle, and how many nodes one read at most.
type counted struct{ done, found, stale, most int }

// step has one of the gets take its step. One that is done makes place for a new one.
func (r *row) step(c *counted) {
	r.t.Helper()
	worker := r.Next(len(r.pairs))
	x := r.pairs[worker]
	stale := x.p.at == atNode && !r.M.Arena.Live(x.p.ahead)
	done := x.step(r.t, r.M, func() bool { return x.g.Step(r.M) })
	for _, x := range r.pairs {
		checkTold(r.t, x.g, x.p.told, "a row of steps")
	}
	c.most = max(c.most, x.p.told.read)
	if stale {
		c.stale++
	}
	if !done {
		return
	}
	c.done++
	if x.p.told.had {
		c.found++
	}
	r.pairs[worker] = r.newPair(worker)
}

// P10.1, P10.2: long rows of steps of gets beside each other, of nodes and chains that others change in whatever way, of tables that come to count, numbers that no table has, and periods of whatever words: each does what its chapter says, and nothing else.
func TestRow(t *testing.T) {
	var c counted
	for workers := 1; workers <= mostWorkers; workers++ {
		for seed := range uint32(25) {
			r := newRow(t, workers, seed)
			for range 400 {
				if r.Next(3) == 0 {
					r.Disturb()
				}
				r.step(&c)
			}
		}
	}
	if c.found < 500 || c.stale < 300 || c.done-c.found-c.stale < 1000 || c.most < 12 {
		t.Errorf("of %d gets %d found, %d came to a stale handle, one read %d nodes", c.done, c.found, c.stale, c.most)
	}
}
