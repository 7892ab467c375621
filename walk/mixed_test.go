package walk

import (
	"slices"
	"strings"
	"testing"

	"quietus/arena"
	"quietus/mem"
	"quietus/trial"
)

// Where a plain walk is.
const (
	atCell = iota
	atNode
	atEnd
)

// plain is a walk told by its chapter's words.
type plain struct {
	cell int
	sum  uint32
	key  string
	at   int
	// ahead is the handle that it stands ahead of.
	ahead arena.Handle
	told  told
}

// step is what the walk's step has to do, from a memory that is as it is ahead of that: whether it is done by it, and whether the flag has to be up then. It uses no handle that isn't live.
func (p *plain) step(m *mem.Mem) (done, fault bool) {
	switch p.at {
	case atCell:
		word, _ := m.Cells.Load(p.cell)
		p.told.first = arena.Handle(word)
		p.ahead = p.told.first
	case atNode:
		if !m.Arena.Live(p.ahead) {
			p.at = atEnd
			return true, true
		}
		node, _ := m.Arena.Read(p.ahead)
		p.told.read++
		if node.Sum == p.sum && node.Key == p.key {
			p.told.found, p.told.node = p.ahead, node
			p.at = atEnd
			return true, false
		}
		p.told.prev, p.ahead = p.ahead, node.Next
	}
	p.at = atNode
	if p.ahead == 0 {
		p.at = atEnd
	}
	return p.at == atEnd, false
}

// pair is a walk, and the plain one that tells what it has to do.
type pair struct {
	w *Walk
	p *plain
}

// newPair is a pair that took no step.
func newPair(cell int, sum uint32, key string) pair {
	return pair{New(cell, sum, key), &plain{cell: cell, sum: sum, key: key}}
}

// step has a walk take its step, and says whether it is done, and whether by a stale handle: it does what the plain one tells, and nothing is changed but the flag.
func (x pair) step(t *testing.T, m *mem.Mem) (done, fault bool) {
	t.Helper()
	want := trial.Look(m)
	done, fault = x.p.step(m)
	want.Fault = want.Fault || fault
	trial.Step(t, m, x.w, done, "a step of a walk")
	want.Check(t, m, "a step of a walk")
	checkTold(t, x.w, x.p.told, "a step of a walk")
	return done, fault
}

// nodeKeys are the keys of a chain's nodes, in order; the place of a node is that of its key, as long as no place was taken again.
const nodeKeys = "abcd"

// newest is the key of a node that is put in meanwhile.
const newest = "n"

// sumOf is the sum of a key: the same one of two keys.
func sumOf(key string) uint32 { return uint32(len(key)) + uint32(key[0])/2 }

// newNode is the node of a key.
func newNode(key string, next arena.Handle) arena.Node {
	return arena.Node{Key: key, Val: key + "!", Sum: sumOf(key), Next: next}
}

// looker looks for keys, one after the other, each by a walk of bucket 0.
type looker []string

// changes are the acts of somebody who changes the chain.
type changes []trial.Act

// handleOf is the handle that the node of a key has at first.
func handleOf(key byte) arena.Handle { return arena.Handle(key-nodeKeys[0]) + 1 }

// linkTo has the node of a key go on with another one's.
func linkTo(key, next byte) trial.Act {
	return trial.Act{Do: func(m *mem.Mem) { m.Arena.Link(handleOf(key), handleOf(next)) }}
}

// cutAt has a chain end by the node of a key.
func cutAt(key byte) trial.Act {
	return trial.Act{Do: func(m *mem.Mem) { m.Arena.Link(handleOf(key), 0) }}
}

// beginBy has the chain begin by the node of a key.
func beginBy(key byte) trial.Act {
	return trial.Act{Do: func(m *mem.Mem) { m.Cells.Store(cellOf(m, 0), uint64(handleOf(key))) }}
}

// frees frees the node of a key.
func frees(key byte) trial.Act {
	return trial.Act{Do: func(m *mem.Mem) { m.Arena.Free(handleOf(key)) }}
}

// putsIn has a new node stand behind that of a key, in one step.
func putsIn(key byte) trial.Act {
	return trial.Act{Do: func(m *mem.Mem) {
		elder, _ := m.Arena.Read(handleOf(key))
		h, _ := m.Arena.Alloc(newNode(newest, elder.Next))
		m.Arena.Link(handleOf(key), h)
	}}
}

// takesPlace has a new node come into the least place that is free.
func takesPlace(key string) trial.Act {
	return trial.Act{Do: func(m *mem.Mem) { m.Arena.Alloc(newNode(key, 0)) }}
}

// world is threads on one memory, and what each walk has to do.
type world struct {
	t       *testing.T
	m       *mem.Mem
	threads []*trial.Thread
	plains  map[mem.Frame]*plain
	// stays are keys that are in the chain all the while, never those that are in it never; of others it isn't known.
	stays, never string
}

// newWorld is a world of a chain of all keys.
func newWorld(t *testing.T, stays, never string, lookers []looker, others changes) *world {
	t.Helper()
	w := &world{t: t, m: newMem(t, len(nodeKeys)+2, 2), plains: map[mem.Frame]*plain{}, stays: stays, never: never}
	var nodes []arena.Node
	for _, key := range nodeKeys {
		nodes = append(nodes, newNode(string(key), 0))
	}
	trial.Lay(t, w.m, cellOf(w.m, 0), nodes...)
	for _, l := range lookers {
		x := &trial.Thread{}
		for _, key := range l {
			x.Makers = append(x.Makers, func() mem.Frame { return w.look(key) })
		}
		w.threads = append(w.threads, x)
	}
	if len(others) > 0 {
		w.threads = append(w.threads, &trial.Thread{Makers: []func() mem.Frame{trial.MakeActs(others...)}})
	}
	return w
}

// look is a walk to a key.
func (w *world) look(key string) mem.Frame {
	x := newPair(cellOf(w.m, 0), sumOf(key), key)
	w.plains[x.w] = x.p
	return x.w
}

// Ready are the threads that are ready: all that have something left.
func (w *world) Ready() []int {
	w.t.Helper()
	ready := trial.Ready(w.m, w.threads)
	for i, x := range w.threads {
		if x.Left() && !slices.Contains(ready, i) {
			w.t.Fatalf("thread %d isn't ready", i)
		}
	}
	return ready
}

// Step has a thread take its step, and looks at P9.1.
func (w *world) Step(i int) {
	w.t.Helper()
	walk, ok := w.threads[i].Next().(*Walk)
	if !ok {
		w.threads[i].Step(w.m)
		w.check()
		return
	}
	p, want := w.plains[walk], trial.Look(w.m)
	done, fault := p.step(w.m)
	want.Fault = want.Fault || fault
	if _, is := w.threads[i].Step(w.m); is != done {
		w.t.Fatalf("a walk to %q: Step = %v", p.key, is)
	}
	want.Check(w.t, w.m, "a step of a walk")
	w.check()
	if done {
		w.ended(walk, p)
	}
}

// check says whether all walks tell what they have to, those that took no step now, too.
func (w *world) check() {
	w.t.Helper()
	for f, p := range w.plains {
		checkTold(w.t, f.(*Walk), p.told, "a walk to "+p.key)
	}
}

// ended says whether a walk that is done found a key that stays, unless a stale handle may have ended it, and none that never is there.
func (w *world) ended(walk *Walk, p *plain) {
	w.t.Helper()
	_, node, ok := walk.Found()
	if ok && (node.Key != p.key || node.Val != p.key+"!" || strings.Contains(w.never, p.key)) {
		w.t.Fatalf("a walk to %q found %v", p.key, node)
	}
	if !ok && !w.m.Arena.Fault() && strings.Contains(w.stays, p.key) {
		w.t.Fatalf("a walk to %q, which is there, found nothing", p.key)
	}
}

// End says whether all threads are done.
func (w *world) End() {
	w.t.Helper()
	for i, x := range w.threads {
		if x.Left() {
			w.t.Fatalf("nobody is ready, thread %d isn't done", i)
		}
	}
}

// P9.1, P9.2: however the steps of walks, and of one who puts nodes in, links past them, and frees them, are mixed, each step does what the chapter says, and each walk finds what is there all the while, and nothing that isn't.
func TestAllWays(t *testing.T) {
	cases := []struct {
		name         string
		stays, never string
		lookers      []looker
		others       changes
	}{
		{"two walks alone", "abcd", "xn", []looker{{"c"}, {"b", "d"}}, nil},
		{"three walks alone", "abcd", "x", []looker{{"a"}, {"b"}, {"x"}}, nil},
		{"all are linked past, one after the other", "d", "x", []looker{{"d"}, {"b"}}, changes{beginBy('b'), beginBy('c'), beginBy('d')}},
		{"those within are linked past", "ad", "x", []looker{{"d"}, {"c"}}, changes{linkTo('a', 'c'), linkTo('a', 'd')}},
		{"the last ones are linked past", "ab", "x", []looker{{"b"}, {"d"}}, changes{cutAt('c'), cutAt('b')}},
		{"some are linked past, and freed", "ad", "x", []looker{{"d"}, {"c"}}, changes{linkTo('a', 'c'), frees('b'), linkTo('a', 'd'), frees('c')}},
		{"one is freed, and its place taken again", "ad", "x", []looker{{"c"}, {"x"}}, changes{linkTo('a', 'c'), frees('b'), takesPlace("c")}},
		{"one is freed that isn't linked past", "a", "x", []looker{{"a", "d"}, {"b"}}, changes{frees('c'), takesPlace("d")}},
		{"one is put in", "abcd", "x", []looker{{"n"}, {"c"}}, changes{putsIn('b')}},
		{"two are put in, the later one ahead", "abcd", "x", []looker{{"n", "n", "d"}}, changes{putsIn('b'), putsIn('a')}},
	}
	for _, c := range cases {
		ends := trial.Explore(func() trial.World { return newWorld(t, c.stays, c.never, c.lookers, c.others) })
		if ends < 100 {
			t.Errorf("%s: there are %d ways alone", c.name, ends)
		}
	}
}

// rowKeys and rowSums are so few that there are nodes of the same ones.
func rowKeys() []string { return []string{"", "k", "l", "kk"} }
func rowSums() []uint32 { return []uint32{0, sum, 1<<31 + sum} }

// row is a memory, and walks of it that are on their way.
type row struct {
	next  func(n int) int
	m     *mem.Mem
	pairs []pair
	// handles are those that were answered, which may be stale.
	handles []arena.Handle
}

// newPair is a pair of a live node's key and sum, or of any ones, and of a bucket's cell, or of any other one, or of one that there isn't.
func (r *row) newPair() pair {
	cell := cellOf(r.m, r.next(4))
	if r.next(4) == 0 {
		cell = r.next(r.m.Cells.Len()+6) - 3
	}
	if places := trial.Look(r.m).Places; len(places) > 0 && r.next(2) == 0 {
		node := places[r.next(len(places))].Node
		return newPair(cell, node.Sum, node.Key)
	}
	return newPair(cell, rowSums()[r.next(3)], rowKeys()[r.next(4)])
}

// newRow is a row.
func newRow(t *testing.T, seed uint32) *row {
	t.Helper()
	r := &row{next: trial.Picker(seed), m: newMem(t, 6, 1)}
	for range 4 {
		r.pairs = append(r.pairs, r.newPair())
	}
	return r
}

// handle is that of a node that is live, if there is one, or one that was answered, or none, or any word.
func (r *row) handle() arena.Handle {
	switch i := r.next(40); {
	case i < 4:
		return 0
	case i == 4:
		return arena.Handle(trial.Words()[r.next(len(trial.Words()))])
	case i == 5 && len(r.handles) > 0:
		return r.handles[r.next(len(r.handles))]
	}
	live := trial.Look(r.m).Live()
	if len(live) == 0 {
		return 0
	}
	return live[r.next(len(live))]
}

// disturb does something that others may do.
func (r *row) disturb(t *testing.T) {
	t.Helper()
	h := r.handle()
	live := r.m.Arena.Live(h)
	switch i := r.next(40); {
	case i < 14:
		node := arena.Node{Key: rowKeys()[r.next(4)], Sum: rowSums()[r.next(3)], Val: "v", Next: h}
		if h, _ := r.m.Arena.Alloc(node); h != 0 {
			r.handles = append(r.handles, h)
		}
	case i < 24:
		trial.Put(t, r.m, cellOf(r.m, r.next(4)), h)
	case i < 25 && r.m.Cells.Len() < 20:
		r.m.Cells.Grow(1)
	case i < 37 && live:
		trial.Link(t, r.m, h, r.handle())
	case live:
		trial.Free(t, r.m, h)
	}
}

// counted is how many walks of rows were done, found something, and came to a stale handle, and how many nodes one read at most.
type counted struct{ done, found, stale, most int }

// step has one of the walks take its step. One that is done, or, at times, another one, makes place for a new one.
func (r *row) step(t *testing.T, c *counted) {
	t.Helper()
	place := r.next(len(r.pairs))
	x := r.pairs[place]
	done, fault := x.step(t, r.m)
	if done {
		c.done++
	}
	if x.p.told.found != 0 {
		c.found++
	}
	if fault {
		c.stale++
	}
	c.most = max(c.most, x.w.Read())
	if done || r.next(60) == 0 {
		r.pairs[place] = r.newPair()
	}
}

// P9.1, P9.2: long rows of steps of walks beside each other, from whatever cells, of chains that others change in whatever way, with words that are no handles, stale ones, and rounds: each does what its chapter says, and nothing else.
func TestRow(t *testing.T) {
	var c counted
	for seed := range uint32(200) {
		r := newRow(t, seed)
		for range 200 {
			if r.next(3) == 0 {
				r.disturb(t)
			}
			r.step(t, &c)
			for _, x := range r.pairs {
				checkTold(t, x.w, x.p.told, "a row of steps")
			}
		}
	}
	if c.found < 1000 || c.stale < 1000 || c.done-c.found-c.stale < 5000 || c.most < 30 {
		t.Errorf("of %d walks %d found, %d came to a stale handle, one read %d nodes", c.done, c.found, c.stale, c.most)
	}
}
