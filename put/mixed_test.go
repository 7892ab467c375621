package put

import (
	"fmt"
	"slices"
	"testing"

	"quietus/api"
	"quietus/arena"
	"quietus/crowd"
	"quietus/mem"
	"quietus/trial"
)

// Where a plain put is, once it came to its key.
const (
	atTake = iota
	atPut
	atWait
	atDrop
)

// plain is a put told by its chapter's words.
type plain struct {
	trial.PlainSeek
	val  string
	at   int
	told told
}

// Step is what the put's step has to come to, and whether the put is done by it. Of what it came to, it looks at nothing but the handle that was taken.
func (p *plain) Step(before, after trial.Seen) (want trial.Seen, done bool) {
	switch {
	case !p.Ready(before):
		return before, false
	case !p.Over():
		want = p.PlainSeek.Step(before)
		p.told.had = p.Found != 0
		if p.Over() && p.Desc.N == 0 {
			p.at = atDrop
		}
		return want, false
	case p.at == atTake:
		return p.take(before, after), false
	case p.at == atPut:
		return p.putIn(before), false
	case p.at == atWait:
		p.at, p.told.mine = atDrop, 0
		return before.Wait(slices.Concat(before.Waiting, []arena.Handle{p.Found})...), false
	}
	return before.Holder(p.Lock, -1), true
}

// take is the step that takes a node.
func (p *plain) take(before, after trial.Seen) trial.Seen {
	if before.Free == 0 {
		p.told.err, p.at = api.ErrFull, atDrop
		return before
	}
	for _, h := range after.Came(before) {
		p.told.mine = h
	}
	node := trial.NewNode(p.Key, p.val)
	node.Next = p.Node.Next
	if p.Found == 0 {
		node.Next = p.First
	}
	p.at = atPut
	return before.Taken(p.told.mine, node)
}

// putIn is the step that puts the node in.
func (p *plain) putIn(before trial.Seen) trial.Seen {
	h := p.told.mine
	p.told.mine, p.at = p.Found, atWait
	if p.Found == 0 {
		p.at = atDrop
	}
	return p.Lead(before, h)
}

// pair is a put, and the plain one that tells what it has to do.
type pair struct {
	t *testing.T
	p *Put
	q *plain
}

// newPair is a pair that took no step.
func newPair(t *testing.T, worker int, key, val string) *pair {
	return &pair{t, New(worker, key, val), &plain{PlainSeek: trial.PlainSeek{Worker: worker, Key: key}, val: val}}
}

// step has a put take its step, ready or not, and says whether it is done: it does what the plain one tells, and nothing else.
func (x *pair) step(m *mem.Mem, take func() bool) bool {
	return trial.StepAs(x.t, m, x.p, x.q, take, fmt.Sprintf("a step of a put of %q", x.q.Key))
}

// told says whether a put tells what it has to.
func (x *pair) told() { checkTold(x.t, x.p, x.q.told, "a put of "+x.q.Key) }

// stepIn has a put of a crowd take its step. Had, as it puts in, is whether the key was there then.
func (x *pair) stepIn(c *crowd.Crowd, take func() bool) bool {
	putsIn := x.q.Over() && x.q.at == atPut
	done := x.step(c.M, take)
	if putsIn {
		if _, had := c.Vals[x.q.Key]; had != x.p.Had() {
			x.t.Fatalf("a put of %q: Had = %v", x.q.Key, x.p.Had())
		}
		c.Vals[x.q.Key] = x.q.val
	}
	return done
}

// maker makes puts, each of a value of its own, and counts those that are refused.
func maker(t *testing.T, refused *int) crowd.Maker {
	made := 0
	return func(c *crowd.Crowd, worker int, _ byte, key string) *crowd.Call {
		made++
		x := newPair(t, worker, key, fmt.Sprint(key, made))
		step := func(take func() bool) bool {
			done := x.stepIn(c, take)
			if done && x.p.Err() == api.ErrFull {
				*refused++
			}
			return done
		}
		return &crowd.Call{Frame: x.p, Step: step, Told: x.told, Mine: x.p.Mine}
	}
}

// P11.1, P11.2: however the steps of puts, of gets, of one who has other tables count, and of one who frees what waits are mixed, each step does what the chapter says, and nothing else; a put changes what its key has, in one step, and no other key's; each get finds what its key had at some time since it began, and none uses a node that was freed; each place is free, reached, waiting, or one thread's, ahead of each step.
func TestAllWays(t *testing.T) {
	cases := []struct {
		name string
		plan crowd.Plan
		// refused says whether puts are refused in some of the ways.
		refused bool
	}{
		{"a new key, and a get of it", crowd.Plan{Room: 1, N: 1, Workers: []string{"+a", "?a"}}, false},
		{"a new key, and gets of it", crowd.Plan{Room: 2, N: 1, Keys: "b", Workers: []string{"+a", "?a?a?a"}, Ahead: []int{5}}, false},
		{"a new key, and a get of another one", crowd.Plan{Room: 3, N: 1, Keys: "bc", Workers: []string{"+a", "?c"}, Ahead: []int{4}}, false},
		{"the first one", crowd.Plan{Room: 3, N: 1, Keys: "ab", Workers: []string{"+a", "?a"}}, false},
		{"the first one, which is freed", crowd.Plan{Room: 3, N: 1, Keys: "ab", Workers: []string{"+a", "?a"}, Drains: true, Ahead: []int{6, 2}}, false},
		{"the first one, which is freed, and a get of the last one", crowd.Plan{Room: 3, N: 1, Keys: "ab", Workers: []string{"+a", "?b"}, Drains: true, Ahead: []int{6, 2}}, false},
		{"one within", crowd.Plan{Room: 4, N: 1, Keys: "bac", Workers: []string{"+a", "?c"}, Ahead: []int{4}}, false},
		{"one within, which is freed", crowd.Plan{Room: 4, N: 1, Keys: "bac", Workers: []string{"+a", "?c"}, Drains: true, Ahead: []int{7, 3}}, false},
		{"the last one", crowd.Plan{Room: 3, N: 1, Keys: "ba", Workers: []string{"+a", "?a"}, Ahead: []int{3}}, false},
		{"no place is free", crowd.Plan{Room: 2, N: 1, Keys: "ab", Workers: []string{"+a", "?a"}}, true},
		{"one key twice, and the elder node is freed", crowd.Plan{Room: 2, N: 1, Keys: "a", Workers: []string{"+a+a"}, Drains: true}, true},
		{"one key twice, and a get of it", crowd.Plan{Room: 3, N: 1, Keys: "a", Workers: []string{"+a+a", "?a"}, Ahead: []int{6, 2}}, false},
		{"two of one key", crowd.Plan{Room: 3, N: 1, Keys: "a", Workers: []string{"+a", "+a"}}, false},
		{"two of one key, which is new", crowd.Plan{Room: 1, N: 1, Workers: []string{"+a", "+a"}}, true},
		{"two of one bucket", crowd.Plan{Room: 5, N: 1, Keys: "ab", Workers: []string{"+b", "+a+b"}}, false},
		{"two of two buckets", crowd.Plan{Room: 2, N: 2, Workers: []string{"+a", "+b"}}, false},
		{"two of two buckets, one of them there", crowd.Plan{Room: 3, N: 2, Keys: "b", Workers: []string{"+a", "+b"}, Ahead: []int{2}}, false},
		{"two of two buckets, and one place", crowd.Plan{Room: 1, N: 2, Workers: []string{"+a", "+b"}}, true},
		{"another table of as many buckets comes to count", crowd.Plan{Room: 2, N: 1, Keys: "a", Workers: []string{"+a"}, Moves: []int{1}}, false},
		{"another one of more buckets comes to count", crowd.Plan{Room: 4, N: 1, Keys: "abc", Workers: []string{"+b"}, Moves: []int{2}}, false},
		{"another one of less buckets comes to count", crowd.Plan{Room: 4, N: 2, Keys: "ab", Workers: []string{"+b"}, Moves: []int{1}}, false},
		{"two, and another table comes to count", crowd.Plan{Room: 2, N: 1, Workers: []string{"+a", "+b"}, Moves: []int{2}, Ahead: []int{3}}, false},
	}
	for _, c := range cases {
		refused := 0
		ends := trial.Explore(func() trial.World { return crowd.New(t, c.plan, maker(t, &refused)) })
		if ends < 10 || (refused > 0) != c.refused {
			t.Errorf("%s: there are %d ways, in which %d puts are refused", c.name, ends, refused)
		}
	}
}

// P11.1, P11.2: the same for puts and gets of 1 to 8 workers, of one bucket or of many, in ways that are picked.
func TestManyWays(t *testing.T) {
	refused := 0
	for workers := 1; workers <= mostWorkers; workers++ {
		for seed := range uint32(20) {
			next := trial.Picker(seed*mostWorkers + uint32(workers))
			trial.Run(crowd.New(t, crowd.PickPlan(next, workers, "+"), maker(t, &refused)), next)
		}
	}
	if refused < 100 {
		t.Errorf("%d puts alone were refused", refused)
	}
}

// row is a row of steps of puts of its workers, one each.
type row struct {
	*trial.Row
	t     *testing.T
	pairs []*pair
	made  int
}

// newPair is a pair of a worker.
func (r *row) newPair(worker int) *pair {
	r.made++
	return newPair(r.t, worker, r.Key(), fmt.Sprint(r.made))
}

// newRow is a row of so many workers.
func newRow(t *testing.T, workers int, seed uint32) *row {
	t.Helper()
	r := &row{Row: trial.NewRow(t, workers, seed), t: t}
	for worker := range workers {
		r.pairs = append(r.pairs, r.newPair(worker))
	}
	return r
}

// counted is how many puts of rows were done, found something, were refused, and how many steps came to a stale handle.
type counted struct{ done, had, refused, stale int }

// step has one of the puts take its step, ready or not. One that is done makes place for a new one.
func (r *row) step(c *counted) {
	r.t.Helper()
	worker := r.Next(len(r.pairs))
	x := r.pairs[worker]
	if x.q.Stale(r.M) {
		c.stale++
	}
	done := x.step(r.M, func() bool { return x.p.Step(r.M) })
	for _, x := range r.pairs {
		x.told()
	}
	if !done {
		return
	}
	c.done++
	if x.q.told.had {
		c.had++
	}
	if x.q.told.err != api.OK {
		c.refused++
	}
	r.pairs[worker] = r.newPair(worker)
}

// P11.1: long rows of steps of puts beside each other, ready or not, of nodes and chains that others change in whatever way, of locks that they take, of tables that come to count, and numbers that no table has: each does what its chapter says, and nothing else.
func TestRow(t *testing.T) {
	var c counted
	for workers := 1; workers <= mostWorkers; workers++ {
		for seed := range uint32(25) {
			r := newRow(t, workers, seed)
			for range 600 {
				if r.Next(3) == 0 {
					r.Disturb()
				}
				r.step(&c)
			}
		}
	}
	if c.done-c.had-c.refused-c.stale < 500 || c.had < 500 || c.refused < 300 || c.stale < 800 {
		t.Errorf("of %d puts %d found something, %d were refused, %d steps came to a stale handle", c.done, c.had, c.refused, c.stale)
	}
}
