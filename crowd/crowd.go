// Package crowd is what the tests of those layers share that change what keys have: workers that do so, and that get, beside one who has other tables count, and one who frees what waits, all of them on one memory. The layers themselves don't use it.
package crowd

import (
	"slices"
	"strings"

	"quietus/arena"
	"quietus/get"
	"quietus/mem"
	"quietus/qsbr"
	"quietus/retire"
	"quietus/trial"
)

const (
	firstWriter = 1
	lastWriter  = 4
	// mover is the number of the one that has other tables count.
	mover = 1000
	// asks is the mark of a get.
	asks = '?'
)

// Plan is what a crowd has: a room, a number of buckets, keys that are there from the beginning on, in order, what each worker does, and the numbers of buckets of tables that come to count. What a worker does are marks, each with a key, a letter, behind it; by ? it is a get.
type Plan struct {
	Room, N int
	Keys    string
	Workers []string
	// Moves are of as many buckets, if there are gets: then all chains stay as they are.
	Moves []int
	// Drains says whether there is one who frees what waits.
	Drains bool
	// Ahead is how many steps each worker takes ahead of all else, in order.
	Ahead []int
}

// Call is what a worker does that may change what its key has.
type Call struct {
	Frame mem.Frame
	// Step takes the frame's step, by take, looks at it, has the crowd's Vals be what they have to be then, and says whether it is done.
	Step func(take func() bool) bool
	// Told says whether the frame tells what it has to.
	Told func()
	// Mine is the handle that it alone knows of.
	Mine func() arena.Handle
}

// PutCall is a call that puts in a value that no other one has: from the step on by which the key has it.
func (c *Crowd) PutCall(f mem.Frame, mine func() arena.Handle, key, val string) *Call {
	return c.plainCall(f, mine, func() {
		if is, _ := trial.ValOf(c.M, key); is == val {
			c.Vals[key] = val
		}
	})
}

// DelCall is a call that takes a key out: from the step on by which the key isn't there.
func (c *Crowd) DelCall(f mem.Frame, mine func() arena.Handle, key string) *Call {
	return c.plainCall(f, mine, func() {
		if _, had := trial.ValOf(c.M, key); !had {
			delete(c.Vals, key)
		}
	})
}

// plainCall is a call of which nothing is looked at but what keys have, which is told behind each step.
func (c *Crowd) plainCall(f mem.Frame, mine func() arena.Handle, tell func()) *Call {
	step := func(take func() bool) bool {
		done := take()
		tell()
		return done
	}
	return &Call{Frame: f, Step: step, Told: func() {}, Mine: mine}
}

// flight is a get that is on its way, and what its key has had since it began.
type flight struct {
	g     *get.Get
	key   string
	begun bool
	since []string
}

// Crowd is threads on one memory.
type Crowd struct {
	M *mem.Mem
	// Vals are what those keys have to have that are there; no value is empty.
	Vals map[string]string

	t trial.T
	// threads are the workers, and behind them the others.
	threads []*trial.Thread
	// calls and gets are each worker's call, and its get, that is on its way, or comes next; nil, if there is none.
	calls []*Call
	gets  []*flight
	// keys are all keys that may be there.
	keys   []string
	drains bool
}

// none is what a key has that isn't there.
const none = ""

// Maker makes what a worker does by a mark that isn't a get's, as its turn comes.
type Maker func(c *Crowd, worker int, mark byte, key string) *Call

// New is a crowd of a plan.
func New(t trial.T, plan Plan, made Maker) *Crowd {
	t.Helper()
	m, _ := mem.New(plan.Room, len(plan.Workers))
	trial.Count(m, trial.NewTable(t, m, plan.N))
	c := &Crowd{M: m, Vals: map[string]string{}, t: t, drains: plan.Drains}
	c.calls, c.gets = make([]*Call, len(plan.Workers)), make([]*flight, len(plan.Workers))
	for _, letter := range plan.Keys {
		c.lay(string(letter))
	}
	for worker, l := range plan.Workers {
		c.worker(worker, l, made)
	}
	var moves []func() mem.Frame
	for _, n := range plan.Moves {
		moves = append(moves, c.moveTo(n)...)
	}
	c.thread(moves...)
	if plan.Drains {
		drain := func() mem.Frame { return retire.New(len(plan.Workers)) }
		c.thread(slices.Repeat([]func() mem.Frame{drain}, changes(plan))...)
	}
	for worker, steps := range plan.Ahead {
		for range steps {
			c.Step(worker)
		}
	}
	return c
}

// changes is how many calls there are that aren't gets: there are no more that anything may wait by.
func changes(plan Plan) int {
	all := strings.Join(plan.Workers, "")
	return len(all)/2 - strings.Count(all, string(asks))
}

// worker has a worker do what these marks say.
func (c *Crowd) worker(worker int, l string, made Maker) {
	var makers []func() mem.Frame
	for i := 0; i < len(l); i += 2 {
		mark, key := l[i], l[i+1:i+2]
		c.keys = append(c.keys, key)
		makers = append(makers, func() mem.Frame {
			if mark == asks {
				return c.get(worker, key)
			}
			c.calls[worker] = made(c, worker, mark, key)
			return c.calls[worker].Frame
		})
	}
	c.thread(makers...)
}

// lay has a key be there from the beginning on, at the end of its chain.
func (c *Crowd) lay(key string) {
	l := c.M.Chain(trial.BucketOf(key, c.M.Now().N))
	trial.Join(c.t, c.M, trial.CellOf(c.M, key), l, len(l), trial.Alloc(c.t, c.M, trial.NewNode(key, "first")))
	c.keys = append(c.keys, key)
	c.Vals[key] = "first"
}

// thread has a thread more.
func (c *Crowd) thread(makers ...func() mem.Frame) {
	c.threads = append(c.threads, &trial.Thread{Makers: makers})
}

// get is a get of a worker.
func (c *Crowd) get(worker int, key string) mem.Frame {
	x := &flight{g: get.New(worker, key), key: key}
	c.gets[worker] = x
	return x.g
}

// moveTo has a table of n buckets count that has what the one that counts has: by all writers' locks, and waiting for all readers who may go along the elder one yet.
func (c *Crowd) moveTo(n int) []func() mem.Frame {
	var take, free []trial.Act
	for lock := firstWriter; lock <= lastWriter; lock++ {
		may := func(m *mem.Mem) bool { return m.Locks.Holder(lock) == -1 }
		take = append(take, trial.Act{Ready: may, Do: func(m *mem.Mem) { m.Locks.Try(lock, mover) }})
		free = append(free, trial.Act{Do: func(m *mem.Mem) { m.Locks.Free(lock, mover) }})
	}
	take = append(take, trial.Act{Do: func(*mem.Mem) { c.layAnew(n) }})
	wait := func() mem.Frame { return qsbr.Sync(mover) }
	return []func() mem.Frame{trial.MakeActs(take...), wait, trial.MakeActs(free...)}
}

// layAnew has a table of n buckets have all nodes, each chain in the order in which they stood, and count.
func (c *Crowd) layAnew(n int) {
	all := c.M.Reach()
	trial.Count(c.M, trial.NewTable(c.t, c.M, n))
	chains := map[int][]arena.Handle{}
	for _, h := range all {
		cell := trial.CellOf(c.M, trial.KeyOf(c.M, h))
		trial.Join(c.t, c.M, cell, chains[cell], len(chains[cell]), h)
		chains[cell] = append(chains[cell], h)
	}
	for _, l := range chains {
		trial.Link(c.t, c.M, l[len(l)-1], 0)
	}
}

// Ready are the threads that are ready.
func (c *Crowd) Ready() []int { return trial.Ready(c.M, c.threads) }

// Step has a thread take its step, and looks at it, at what keys have, and at where all places are.
func (c *Crowd) Step(i int) {
	c.t.Helper()
	c.threads[i].Next()
	take := func() bool {
		_, done := c.threads[i].Step(c.M)
		return done
	}
	switch {
	case i < len(c.calls) && c.calls[i] != nil:
		c.stepCall(i, take)
	case i < len(c.gets) && c.gets[i] != nil:
		c.stepGet(i, take)
	default:
		take()
	}
	c.checkVals()
	c.account()
	for _, x := range c.gets {
		c.since(x)
	}
}

// stepCall has a worker's call take its step; behind the last one the worker has no lock.
func (c *Crowd) stepCall(worker int, take func() bool) {
	c.t.Helper()
	done := c.calls[worker].Step(take)
	for _, x := range c.calls {
		if x != nil {
			x.Told()
		}
	}
	if !done {
		return
	}
	if held := c.M.Locks.Held(worker); len(held) > 0 {
		c.t.Fatalf("a call is done, its worker %d holds %v", worker, held)
	}
	c.calls[worker] = nil
}

// since keeps what a get's key has now, if there is one that has begun.
func (c *Crowd) since(x *flight) {
	if x != nil && x.begun {
		x.since = append(x.since, c.Vals[x.key])
	}
}

// stepGet has a worker's get take its step, by the last of which it has found what its key had at some time since it began.
func (c *Crowd) stepGet(worker int, take func() bool) {
	c.t.Helper()
	x := c.gets[worker]
	x.begun = true
	c.since(x)
	if !take() {
		return
	}
	val, had := x.g.Val()
	if !slices.Contains(x.since, val) || had != (val != none) {
		c.t.Fatalf("a get of %q found %q, %v; meanwhile it had %q", x.key, val, had, x.since)
	}
	c.gets[worker] = nil
}

// checkVals says whether each key has what it has to.
func (c *Crowd) checkVals() {
	c.t.Helper()
	for _, key := range c.keys {
		val, had := c.Vals[key]
		if is, ok := trial.ValOf(c.M, key); is != val || ok != had {
			c.t.Fatalf("the key %q has %q, %v, not %q, %v", key, is, ok, val, had)
		}
	}
}

// alone are the handles that one thread alone knows of.
func (c *Crowd) alone() []arena.Handle {
	var l []arena.Handle
	for _, x := range c.calls {
		if x != nil && x.Mine() != 0 {
			l = append(l, x.Mine())
		}
	}
	for _, x := range c.threads {
		if !x.Left() {
			continue
		}
		if d, ok := x.Next().(*retire.Drain); ok {
			l = append(l, d.Left()...)
		}
	}
	return l
}

// account says whether each place is free, or reached, or waits, or is one thread's, and no key is there twice.
func (c *Crowd) account() {
	c.t.Helper()
	if reach := c.M.Reach(); len(reach) != len(c.Vals) {
		c.t.Fatalf("of %d keys %v are reached", len(c.Vals), reach)
	}
	trial.Places(c.t, c.M, c.alone())
}

// End says whether all threads are done, but drains for which nothing was left, no lock is held, nobody is in, and each place is free, or reached, or waits, if nobody frees it.
func (c *Crowd) End() {
	c.t.Helper()
	for i, x := range c.threads {
		if !x.Left() {
			continue
		}
		if d, ok := x.Next().(*retire.Drain); !ok || len(d.Left()) > 0 {
			c.t.Fatalf("nobody is ready, thread %d isn't done", i)
		}
	}
	trial.AtRest(c.t, c.M)
	if c.drains && c.M.Waiting() > 0 || c.M.Arena.Spare()+c.M.Waiting()+len(c.Vals) != c.M.Arena.Room() {
		c.t.Fatalf("all are done, %d wait, %d are free, these keys are there: %v", c.M.Waiting(), c.M.Arena.Spare(), c.Vals)
	}
}

// Letters are the keys of plans that are picked.
const Letters = "abcdefgh"

// pickCalls are so many calls of a worker, of these marks.
func pickCalls(next func(n int) int, n int, marks string) string {
	var l []byte
	for range n {
		l = append(l, marks[next(len(marks))], Letters[next(len(Letters))])
	}
	return string(l)
}

// PickPlan is a plan of so many workers, of calls of these marks, and, for half of the plans, of gets beside them; all tables have as many buckets then.
func PickPlan(next func(n int) int, workers int, marks string) Plan {
	p := Plan{N: 1 << next(4), Keys: Letters[:next(len(Letters)+1)], Drains: true}
	p.Room = len(p.Keys) + 1 + next(2*workers)
	gets := next(2) == 0
	if gets {
		marks += string(asks)
	}
	for range workers {
		p.Workers = append(p.Workers, pickCalls(next, 12, marks))
	}
	for range next(5) {
		n := p.N
		if !gets {
			n = 1 << next(4)
		}
		p.Moves = append(p.Moves, n)
	}
	return p
}
