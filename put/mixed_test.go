package put

import (
	"fmt"
	"slices"
	"strings"
	"testing"

	"quietus/api"
	"quietus/arena"
	"quietus/fnv"
	"quietus/get"
	"quietus/mem"
	"quietus/qsbr"
	"quietus/retire"
	"quietus/trial"
)

// Where a plain put is.
const (
	atLoad = iota
	atLock
	atAgain
	atFree
	atCell
	atNode
	atTake
	atPut
	atWait
	atDrop
	atEnd
)

// plain is a put told by its chapter's words.
type plain struct {
	worker   int
	key, val string
	at       int
	number   uint64
	desc     mem.Desc
	lock     int
	// first is what the cell had, ahead the handle that it stands ahead of, and prev the one that it read last.
	first, ahead, prev arena.Handle
	// elder is what was found, and behind what that went on with.
	elder, behind arena.Handle
	told          told
}

// lockOf is the table of the number that was loaded, and the lock; the zero one, and the first lock, if there is no such table.
func (p *plain) lockOf(s trial.Seen) (mem.Desc, int) {
	if p.number >= uint64(len(s.Tables)) {
		return mem.Desc{}, firstWriter
	}
	desc := s.Tables[p.number]
	return desc, trial.LockOf(fnv.Sum(p.key), desc.N)
}

// ready says whether the put has to be ready.
func (p *plain) ready(s trial.Seen) bool {
	_, lock := p.lockOf(s)
	return p.at != atLock || s.Holders[lock] == -1
}

// step is what the put's step has to come to, from a memory that is as it was ahead of that, and whether the put is done by it. Of what it came to, it looks at nothing but the handle that was taken.
func (p *plain) step(before, after trial.Seen) (want trial.Seen, done bool) {
	switch {
	case !p.ready(before):
		return before, false
	case p.at <= atFree:
		return p.hold(before), false
	case p.at <= atNode:
		return p.goAlong(before), false
	case p.at == atTake:
		return p.take(before, after), false
	case p.at == atPut:
		return p.putIn(before), false
	case p.at == atWait:
		p.at, p.told.mine = atDrop, 0
		return before.Wait(slices.Concat(before.Waiting, []arena.Handle{p.elder})...), false
	}
	p.at = atEnd
	return before.Holder(p.lock, -1), true
}

// hold is a step of holding the bucket.
func (p *plain) hold(before trial.Seen) trial.Seen {
	switch p.at {
	case atLoad:
		p.number, p.at = before.Words[currentCell], atLock
	case atLock:
		p.desc, p.lock = p.lockOf(before)
		p.at = atAgain
		return before.Holder(p.lock, p.worker)
	case atAgain:
		p.at = atFree
		if before.Words[currentCell] == p.number {
			p.at = atCell
		}
	case atFree:
		p.at = atLoad
		return before.Holder(p.lock, -1)
	}
	return before
}

// goAlong is a step of the walk.
func (p *plain) goAlong(before trial.Seen) trial.Seen {
	if p.at == atCell {
		p.at = atDrop
		if p.desc.N > 0 {
			p.first = arena.Handle(before.Words[trial.CellIn(p.desc, p.key)])
			p.comeTo(p.first)
		}
		return before
	}
	node, live := before.Node(p.ahead)
	switch {
	case !live:
		before.Fault = true
		p.at = atTake
	case node.Key == p.key && node.Sum == fnv.Sum(p.key):
		p.elder, p.behind, p.told.had = p.ahead, node.Next, true
		p.at = atTake
	default:
		p.prev = p.ahead
		p.comeTo(node.Next)
	}
	return before
}

// comeTo has it stand ahead of a node, or of taking one, if there is none.
func (p *plain) comeTo(h arena.Handle) {
	p.ahead, p.at = h, atNode
	if h == 0 {
		p.at = atTake
	}
}

// take is the step that takes a node.
func (p *plain) take(before, after trial.Seen) trial.Seen {
	if before.Free == 0 {
		p.told.err, p.at = api.ErrFull, atDrop
		return before
	}
	for _, h := range after.Came(before) {
		p.told.mine = h
	}
	node := trial.NewNode(p.key, p.val)
	node.Next = p.behind
	if p.elder == 0 {
		node.Next = p.first
	}
	p.at = atPut
	return before.Taken(p.told.mine, node)
}

// putIn is the step that puts the node in.
func (p *plain) putIn(before trial.Seen) trial.Seen {
	h := p.told.mine
	p.told.mine, p.at = p.elder, atWait
	if p.elder == 0 {
		p.at = atDrop
	}
	if p.elder != 0 && p.prev != 0 {
		return before.Linked(p.prev, h)
	}
	return before.Word(trial.CellIn(p.desc, p.key), uint64(h))
}

// pair is a put, and the plain one that tells what it has to do.
type pair struct {
	p *Put
	q *plain
}

// newPair is a pair that took no step.
func newPair(worker int, key, val string) *pair {
	return &pair{New(worker, key, val), &plain{worker: worker, key: key, val: val}}
}

// step has a put take its step, ready or not, and says whether it is done: it does what the plain one tells, and nothing else.
func (x *pair) step(t *testing.T, m *mem.Mem, take func() bool) bool {
	what := fmt.Sprintf("a step of a put of %q, at %d", x.q.key, x.q.at)
	before := trial.Look(m)
	if ready := x.p.Ready(m); ready != x.q.ready(before) {
		t.Fatalf("%s: Ready = %v", what, ready)
	}
	is := take()
	want, done := x.q.step(before, trial.Look(m))
	if is != done {
		t.Fatalf("%s: Step = %v", what, is)
	}
	want.Check(t, m, what)
	return done
}

// plan is what a world has: a room, a number of buckets, keys that are there from the beginning on, in order, what each worker does, and the numbers of buckets of tables that come to count. What a worker does are letters: a small one is a get of that key, a great one a put of the small one.
type plan struct {
	room, n int
	keys    string
	workers []string
	moves   []int
	// drains says whether there is one who frees what waits.
	drains bool
	// ahead is how many steps each worker takes ahead of all else, in order.
	ahead []int
}

// flight is a get that is on its way, and what its key has had since it began.
type flight struct {
	g     *get.Get
	key   string
	since []string
}

// world is threads on one memory: workers that put and get, one that has other tables count, and one that frees.
type world struct {
	t       *testing.T
	m       *mem.Mem
	threads []*trial.Thread
	puts    map[mem.Frame]*pair
	gets    map[mem.Frame]*flight
	// keys are all keys that may be there, vals what those have that are there.
	keys string
	vals map[string]string
	// drains says whether there is one who frees what waits.
	drains bool
	// made is how many puts there were, so that each has a value of its own, and refused how many were.
	made    int
	refused *int
}

// newWorld is a world of a plan.
func newWorld(t *testing.T, plan plan, refused *int) *world {
	t.Helper()
	m, _ := mem.New(plan.room, len(plan.workers))
	trial.Count(m, trial.NewTable(t, m, plan.n))
	w := &world{t: t, m: m, puts: map[mem.Frame]*pair{}, gets: map[mem.Frame]*flight{}, vals: map[string]string{}, drains: plan.drains, refused: refused}
	w.keys = strings.ToLower(plan.keys + strings.Join(plan.workers, ""))
	for _, key := range plan.keys {
		l := m.Chain(trial.BucketOf(string(key), plan.n))
		trial.Join(t, m, trial.CellOf(m, string(key)), l, len(l), trial.Alloc(t, m, trial.NewNode(string(key), "first")))
		w.vals[string(key)] = "first"
	}
	puts := 0
	for worker, l := range plan.workers {
		var makers []func() mem.Frame
		for _, letter := range l {
			makers = append(makers, func() mem.Frame { return w.frame(worker, string(letter)) })
			if letter < 'a' {
				puts++
			}
		}
		w.threads = append(w.threads, &trial.Thread{Makers: makers})
	}
	var moves []func() mem.Frame
	for _, n := range plan.moves {
		moves = append(moves, moveTo(t, n)...)
	}
	w.threads = append(w.threads, &trial.Thread{Makers: moves})
	if plan.drains {
		drain := func() mem.Frame { return retire.New(len(plan.workers)) }
		w.threads = append(w.threads, &trial.Thread{Makers: slices.Repeat([]func() mem.Frame{drain}, puts)})
	}
	for worker, steps := range plan.ahead {
		for range steps {
			w.Step(worker)
		}
	}
	return w
}

// frame is what a worker does by a letter.
func (w *world) frame(worker int, letter string) mem.Frame {
	key := strings.ToLower(letter)
	if key == letter {
		x := &flight{g: get.New(worker, key), key: key}
		w.gets[x.g] = x
		return x.g
	}
	w.made++
	x := newPair(worker, key, fmt.Sprint(key, w.made))
	w.puts[x.p] = x
	return x.p
}

// mover is the number of the one that has other tables count.
const mover = somebody

// moveTo has a table of n buckets count that has what the one that counts has: by all writers' locks, and waiting for all readers who may go along the elder one yet. If there are readers, it has to have as many buckets: then all chains stay as they are.
func moveTo(t *testing.T, n int) []func() mem.Frame {
	var take, free []trial.Act
	for lock := firstWriter; lock <= lastWriter; lock++ {
		may := func(m *mem.Mem) bool { return m.Locks.Holder(lock) == -1 }
		take = append(take, trial.Act{Ready: may, Do: func(m *mem.Mem) { m.Locks.Try(lock, mover) }})
		free = append(free, trial.Act{Do: func(m *mem.Mem) { m.Locks.Free(lock, mover) }})
	}
	take = append(take, trial.Act{Do: func(m *mem.Mem) { layAnew(t, m, n) }})
	wait := func() mem.Frame { return qsbr.Sync(mover) }
	return []func() mem.Frame{trial.MakeActs(take...), wait, trial.MakeActs(free...)}
}

// layAnew has a table of n buckets have all nodes, each chain in the order in which they stood, and count.
func layAnew(t *testing.T, m *mem.Mem, n int) {
	t.Helper()
	all := m.Reach()
	trial.Count(m, trial.NewTable(t, m, n))
	chains := map[int][]arena.Handle{}
	for _, h := range all {
		cell := trial.CellOf(m, trial.KeyOf(m, h))
		trial.Join(t, m, cell, chains[cell], len(chains[cell]), h)
		chains[cell] = append(chains[cell], h)
	}
	for _, l := range chains {
		trial.Link(t, m, l[len(l)-1], 0)
	}
}

// Ready are the threads that are ready.
func (w *world) Ready() []int { return trial.Ready(w.m, w.threads) }

// Step has a thread take its step, and looks at P11.1 and P11.2.
func (w *world) Step(i int) {
	f := w.threads[i].Next()
	take := func() bool {
		_, done := w.threads[i].Step(w.m)
		return done
	}
	if x := w.puts[f]; x != nil {
		w.put(x, take)
	} else if x := w.gets[f]; x != nil {
		w.get(x, take)
	} else {
		take()
	}
	w.checkVals()
	w.account()
	for _, x := range w.gets {
		w.since(x)
	}
}

// put has a put take its step.
func (w *world) put(x *pair, take func() bool) {
	putsIn := x.q.at == atPut
	done := x.step(w.t, w.m, take)
	if putsIn {
		if _, had := w.vals[x.q.key]; had != x.p.Had() {
			w.t.Fatalf("a put of %q: Had = %v", x.q.key, x.p.Had())
		}
		w.vals[x.q.key] = x.q.val
	}
	for _, x := range w.puts {
		checkTold(w.t, x.p, x.q.told, "a put of "+x.q.key)
	}
	if !done {
		return
	}
	if held := w.m.Locks.Held(x.q.worker); len(held) > 0 {
		w.t.Fatalf("a put of %q is done, its worker holds %v", x.q.key, held)
	}
	if x.p.Err() == api.ErrFull {
		*w.refused++
	}
	delete(w.puts, x.p)
}

// none is what a key has that isn't there: no value that there is.
const none = ""

// since keeps what a get's key has now.
func (w *world) since(x *flight) { x.since = append(x.since, w.vals[x.key]) }

// get has a get take its step, by the last of which it has found what its key had at some time since it began.
func (w *world) get(x *flight, take func() bool) {
	w.since(x)
	if !take() {
		return
	}
	val, had := x.g.Val()
	if !slices.Contains(x.since, val) || had != (val != none) {
		w.t.Fatalf("a get of %q found %q, %v; meanwhile it had %q", x.key, val, had, x.since)
	}
	delete(w.gets, x.g)
}

// checkVals says whether each key has what it has to.
func (w *world) checkVals() {
	for _, key := range w.keys {
		val, had := w.vals[string(key)]
		if is, ok := trial.ValOf(w.m, string(key)); is != val || ok != had {
			w.t.Fatalf("the key %q has %q, %v, not %q, %v", key, is, ok, val, had)
		}
	}
}

// account says whether each place is free, or reached, or waits, or is one thread's, one of these alone, and no key is there twice.
func (w *world) account() {
	reach := w.m.Reach()
	if len(reach) != len(w.vals) || w.m.Arena.Fault() {
		w.t.Fatalf("of %d keys %v are reached, Fault = %v", len(w.vals), reach, w.m.Arena.Fault())
	}
	all := slices.Concat(reach, trial.Look(w.m).Waiting)
	for _, x := range w.threads {
		if !x.Left() {
			continue
		}
		switch f := x.Next().(type) {
		case *Put:
			if h := f.Mine(); h != 0 {
				all = append(all, h)
			}
		case *retire.Drain:
			all = append(all, f.Left()...)
		}
	}
	slices.Sort(all)
	if len(slices.Compact(slices.Clone(all)))+w.m.Arena.Spare() != w.m.Arena.Room() || len(all)+w.m.Arena.Spare() != w.m.Arena.Room() {
		w.t.Fatalf("%d are free, reached, waiting, or one thread's are %v", w.m.Arena.Spare(), all)
	}
}

// End says whether all threads are done, but drains for which nothing was left, no lock is held, and each place is free, or reached.
func (w *world) End() {
	w.t.Helper()
	for i, x := range w.threads {
		if !x.Left() {
			continue
		}
		if d, ok := x.Next().(*retire.Drain); !ok || len(d.Left()) > 0 {
			w.t.Fatalf("nobody is ready, thread %d isn't done", i)
		}
	}
	for lock := range w.m.Locks.Len() {
		if who := w.m.Locks.Holder(lock); who != -1 {
			w.t.Fatalf("all are done, the holder of the lock %d is %d", lock, who)
		}
	}
	if w.drains && w.m.Waiting() > 0 || w.m.Arena.Spare()+w.m.Waiting()+len(w.vals) != w.m.Arena.Room() {
		w.t.Fatalf("all are done, %d wait, %d are free, these keys are there: %v", w.m.Waiting(), w.m.Arena.Spare(), w.vals)
	}
}

// P11.1, P11.2: however the steps of puts, of gets, of one who has other tables count, and of one who frees what waits are mixed, each step does what the chapter says, and nothing else; a put changes what its key has, in one step, and no other key's; each get finds what its key had at some time since it began, and none uses a node that was freed; each place is free, reached, waiting, or one thread's, ahead of each step.
func TestAllWays(t *testing.T) {
	cases := []struct {
		name string
		plan plan
		// refused says whether puts are refused in some of the ways.
		refused bool
	}{
		{"a new key, and a get of it", plan{room: 1, n: 1, workers: []string{"A", "a"}}, false},
		{"a new key, and gets of it", plan{room: 2, n: 1, keys: "b", workers: []string{"A", "aaa"}, ahead: []int{5}}, false},
		{"a new key, and a get of another one", plan{room: 3, n: 1, keys: "bc", workers: []string{"A", "c"}, ahead: []int{4}}, false},
		{"the first one", plan{room: 3, n: 1, keys: "ab", workers: []string{"A", "a"}}, false},
		{"the first one, which is freed", plan{room: 3, n: 1, keys: "ab", workers: []string{"A", "a"}, drains: true, ahead: []int{6, 2}}, false},
		{"the first one, which is freed, and a get of the last one", plan{room: 3, n: 1, keys: "ab", workers: []string{"A", "b"}, drains: true, ahead: []int{6, 2}}, false},
		{"one within", plan{room: 4, n: 1, keys: "bac", workers: []string{"A", "c"}, ahead: []int{4}}, false},
		{"one within, which is freed", plan{room: 4, n: 1, keys: "bac", workers: []string{"A", "c"}, drains: true, ahead: []int{7, 3}}, false},
		{"the last one", plan{room: 3, n: 1, keys: "ba", workers: []string{"A", "a"}, ahead: []int{3}}, false},
		{"no place is free", plan{room: 2, n: 1, keys: "ab", workers: []string{"A", "a"}}, true},
		{"one key twice, and the elder node is freed", plan{room: 2, n: 1, keys: "a", workers: []string{"AA"}, drains: true}, true},
		{"one key twice, and a get of it", plan{room: 3, n: 1, keys: "a", workers: []string{"AA", "a"}, ahead: []int{6, 2}}, false},
		{"two of one key", plan{room: 3, n: 1, keys: "a", workers: []string{"A", "A"}}, false},
		{"two of one key, which is new", plan{room: 1, n: 1, workers: []string{"A", "A"}}, true},
		{"two of one bucket", plan{room: 5, n: 1, keys: "ab", workers: []string{"B", "AB"}}, false},
		{"two of two buckets", plan{room: 2, n: 2, workers: []string{"A", "B"}}, false},
		{"two of two buckets, one of them there", plan{room: 3, n: 2, keys: "b", workers: []string{"A", "B"}, ahead: []int{2}}, false},
		{"two of two buckets, and one place", plan{room: 1, n: 2, workers: []string{"A", "B"}}, true},
		{"another table of as many buckets comes to count", plan{room: 2, n: 1, keys: "a", workers: []string{"A"}, moves: []int{1}}, false},
		{"another one of more buckets comes to count", plan{room: 4, n: 1, keys: "abc", workers: []string{"B"}, moves: []int{2}}, false},
		{"another one of less buckets comes to count", plan{room: 4, n: 2, keys: "ab", workers: []string{"B"}, moves: []int{1}}, false},
		{"two, and another table comes to count", plan{room: 2, n: 1, workers: []string{"A", "B"}, moves: []int{2}, ahead: []int{3}}, false},
	}
	for _, c := range cases {
		refused := 0
		ends := trial.Explore(func() trial.World { return newWorld(t, c.plan, &refused) })
		if ends < 10 || (refused > 0) != c.refused {
			t.Errorf("%s: there are %d ways, in which %d puts are refused", c.name, ends, refused)
		}
	}
}

// manyKeys are the keys of plans that are picked.
const manyKeys = "abcdefgh"

// pickLetters are so many letters, of gets and puts, or of puts alone.
func pickLetters(next func(n int) int, n int, gets bool) string {
	l := ""
	for range n {
		letter := string(manyKeys[next(len(manyKeys))])
		if !gets || next(2) == 0 {
			letter = strings.ToUpper(letter)
		}
		l += letter
	}
	return l
}

// pickPlan is a plan of so many workers. If there are gets, all tables have as many buckets.
func pickPlan(next func(n int) int, workers int) plan {
	p := plan{n: 1 << next(4), keys: manyKeys[:next(len(manyKeys)+1)], drains: true}
	p.room = len(p.keys) + 1 + next(2*workers)
	gets := next(2) == 0
	for range workers {
		p.workers = append(p.workers, pickLetters(next, 12, gets))
	}
	for range next(5) {
		n := p.n
		if !gets {
			n = 1 << next(4)
		}
		p.moves = append(p.moves, n)
	}
	return p
}

// P11.1, P11.2: the same for puts and gets of 1 to 8 workers, of one bucket or of many, in ways that are picked.
func TestManyWays(t *testing.T) {
	refused := 0
	for workers := 1; workers <= mostWorkers; workers++ {
		for seed := range uint32(20) {
			next := trial.Picker(seed*mostWorkers + uint32(workers))
			trial.Run(newWorld(t, pickPlan(next, workers), &refused), next)
		}
	}
	if refused < 100 {
		t.Errorf("%d puts alone were refused", refused)
	}
}

// rowKeys are so few that there are nodes of the same ones.
func rowKeys() []string { return []string{"", "k", "l", "kk", "m"} }

// row is a memory, and puts of its workers, one each, that are on their way.
type row struct {
	t     *testing.T
	next  func(n int) int
	m     *mem.Mem
	pairs []*pair
	made  int
	// handles are those that were answered, which may be stale.
	handles []arena.Handle
}

// newPair is a pair of a worker.
func (r *row) newPair(worker int) *pair {
	r.made++
	return newPair(worker, rowKeys()[r.next(len(rowKeys()))], fmt.Sprint(r.made))
}

// newRow is a row of so many workers.
func newRow(t *testing.T, workers int, seed uint32) *row {
	t.Helper()
	m, _ := mem.New(12, workers)
	r := &row{t: t, next: trial.Picker(seed*mostWorkers + uint32(workers)), m: m}
	for worker := range workers {
		r.pairs = append(r.pairs, r.newPair(worker))
	}
	return r
}

// handle is that of a node that is live, if there is one, or one that was answered, or none, or any word.
func (r *row) handle() arena.Handle {
	switch i := r.next(60); {
	case i < 6:
		return 0
	case i == 6:
		return arena.Handle(trial.Words()[r.next(len(trial.Words()))])
	case i == 7 && len(r.handles) > 0:
		return r.handles[r.next(len(r.handles))]
	}
	live := trial.Look(r.m).Live()
	if len(live) == 0 {
		return 0
	}
	return live[r.next(len(live))]
}

// disturb does something that others may do.
func (r *row) disturb() {
	lock := r.next(r.m.Locks.Len())
	switch i := r.next(40); {
	case i < 24:
		r.disturbNodes()
	case i < 25:
		r.m.Cells.Store(currentCell, trial.Words()[r.next(len(trial.Words()))])
	case i < 29:
		trial.Count(r.m, r.next(len(trial.Look(r.m).Tables)))
	case i < 30 && r.m.Cells.Len() < 40:
		trial.NewTable(r.t, r.m, 1<<r.next(4))
	case i < 31:
		r.m.Take()
	case i < 34:
		r.m.Locks.Try(lock, somebody)
	default:
		r.m.Locks.Free(lock, somebody)
	}
}

// disturbNodes changes nodes, and chains, in whatever way.
func (r *row) disturbNodes() {
	h := r.handle()
	live := r.m.Arena.Live(h)
	switch i := r.next(40); {
	case i < 6:
		node := trial.NewNode(rowKeys()[r.next(len(rowKeys()))], fmt.Sprint(len(r.handles)))
		node.Next = h
		if r.next(9) == 0 {
			node.Sum++
		}
		if h, _ := r.m.Arena.Alloc(node); h != 0 {
			r.handles = append(r.handles, h)
		}
	case i < 12:
		first := firstCounter + r.m.Workers()
		trial.Put(r.t, r.m, first+r.next(r.m.Cells.Len()-first), h)
	case i < 30 && live:
		trial.Link(r.t, r.m, h, r.handle())
	case live:
		trial.Free(r.t, r.m, h)
	}
}

// counted is how many puts of rows were done, found something, were refused, and how many steps came to a stale handle.
type counted struct{ done, had, refused, stale int }

// step has one of the puts take its step, ready or not. One that is done makes place for a new one.
func (r *row) step(c *counted) {
	r.t.Helper()
	worker := r.next(len(r.pairs))
	x := r.pairs[worker]
	if x.q.at == atNode && !r.m.Arena.Live(x.q.ahead) {
		c.stale++
	}
	done := x.step(r.t, r.m, func() bool { return x.p.Step(r.m) })
	for _, x := range r.pairs {
		checkTold(r.t, x.p, x.q.told, "a row of steps")
	}
	if !done {
		return
	}
	c.done++
	if x.q.told.had {
		c.had++
	}
	if x.q.told.err != api.OK {
		c.refused++
	}
	r.pairs[worker] = r.newPair(worker)
}

// P11.1: long rows of steps of puts beside each other, ready or not, of nodes and chains that others change in whatever way, of locks that they take, of tables that come to count, and numbers that no table has: each does what its chapter says, and nothing else.
func TestRow(t *testing.T) {
	var c counted
	for workers := 1; workers <= mostWorkers; workers++ {
		for seed := range uint32(25) {
			r := newRow(t, workers, seed)
			for range 600 {
				if r.next(3) == 0 {
					r.disturb()
				}
				r.step(&c)
			}
		}
	}
	if c.done-c.had-c.refused-c.stale < 1000 || c.had < 500 || c.refused < 300 || c.stale < 800 {
		t.Errorf("of %d puts %d found something, %d were refused, %d steps came to a stale handle", c.done, c.had, c.refused, c.stale)
	}
}
