package del

import (
	"fmt"
	"slices"
	"testing"

	"quietus/arena"
	"quietus/crowd"
	"quietus/mem"
	"quietus/put"
	"quietus/trial"
)

// Where a plain del is, once it came to its key.
const (
	atPass = iota
	atWait
	atDrop
)

// plain is a del told by its chapter's words.
type plain struct {
	trial.PlainSeek
	at   int
	told told
}

// Step is what the del's step has to come to, and whether the del is done by it.
func (p *plain) Step(before, _ trial.Seen) (want trial.Seen, done bool) {
	switch {
	case !p.Ready(before):
		return before, false
	case !p.Over():
		return p.goAlong(before), false
	case p.at == atPass:
		p.at, p.told.mine = atWait, p.Found
		return p.Lead(before, p.Node.Next), false
	case p.at == atWait:
		p.at, p.told.mine = atDrop, 0
		return before.Wait(slices.Concat(before.Waiting, []arena.Handle{p.Found})...), false
	}
	return before.Holder(p.Lock, -1), true
}

// goAlong is a step of going to the key.
func (p *plain) goAlong(before trial.Seen) trial.Seen {
	want := p.PlainSeek.Step(before)
	p.told.val, p.told.had = p.Node.Val, p.Found != 0
	if p.Over() && p.Found == 0 {
		p.at = atDrop
	}
	return want
}

// pair is a del, and the plain one that tells what it has to do.
type pair struct {
	t *testing.T
	d *Del
	p *plain
}

// newPair is a pair that took no step.
func newPair(t *testing.T, worker int, key string) *pair {
	return &pair{t, New(worker, key), &plain{PlainSeek: trial.PlainSeek{Worker: worker, Key: key}}}
}

// step has a del take its step, ready or not, and says whether it is done: it does what the plain one tells, and nothing else.
func (x *pair) step(m *mem.Mem, take func() bool) bool {
	return trial.StepAs(x.t, m, x.d, x.p, take, fmt.Sprintf("a step of a del of %q", x.p.Key))
}

// told says whether a del tells what it has to.
func (x *pair) told() { checkTold(x.t, x.d, x.p.told, "a del of "+x.p.Key) }

// stepOut has a del of a crowd take its step. What it found, as it passes over, is what the key had then; if it found nothing, the key isn't there as it is done.
func (x *pair) stepOut(c *crowd.Crowd, take func() bool) bool {
	passes := x.p.Over() && x.p.at == atPass
	done := x.step(c.M, take)
	was, found := x.d.Had()
	val, had := c.Vals[x.p.Key]
	if passes && (was != val || found != had) || done && !found && had {
		x.t.Fatalf("a del of %q: Had = %q, %v; the key has %q, %v", x.p.Key, was, found, val, had)
	}
	if passes {
		delete(c.Vals, x.p.Key)
	}
	return done
}

// counts is how many dels of crowds found something, and how many didn't.
type counts struct{ found, missed int }

// ended counts a del that is done.
func (n *counts) ended(d *Del) {
	if _, found := d.Had(); found {
		n.found++
		return
	}
	n.missed++
}

// makeDel makes a del.
func makeDel(t *testing.T, c *crowd.Crowd, worker int, key string, n *counts) *crowd.Call {
	x := newPair(t, worker, key)
	step := func(take func() bool) bool {
		done := x.stepOut(c, take)
		if done {
			n.ended(x.d)
		}
		return done
	}
	return &crowd.Call{Frame: x.d, Step: step, Told: x.told, Mine: x.d.Mine}
}

// maker makes dels, and puts, each of a value of its own.
func maker(t *testing.T, n *counts) crowd.Maker {
	made := 0
	return func(c *crowd.Crowd, worker int, mark byte, key string) *crowd.Call {
		if mark == '-' {
			return makeDel(t, c, worker, key, n)
		}
		made++
		val := fmt.Sprint(key, made)
		p := put.New(worker, key, val)
		return c.PutCall(p, p.Mine, key, val)
	}
}

// P12.1, P12.2: however the steps of dels, of puts, of gets, of one who has other tables count, and of one who frees what waits are mixed, each step of a del does what the chapter says, and nothing else; a del takes its key out, in one step, and changes what no other key has; each get finds what its key had at some time since it began, and none uses a node that was freed; each place is free, reached, waiting, or one thread's, ahead of each step.
func TestAllWays(t *testing.T) {
	cases := []struct {
		name string
		plan crowd.Plan
		// found and missed say whether dels find something, and nothing, in some of the ways.
		found, missed bool
	}{
		{"nothing is there", crowd.Plan{Room: 1, N: 1, Workers: []string{"-a", "?a"}}, false, true},
		{"another key is there", crowd.Plan{Room: 1, N: 1, Keys: "b", Workers: []string{"-a", "?b"}}, false, true},
		{"the one, and a get of it", crowd.Plan{Room: 1, N: 1, Keys: "a", Workers: []string{"-a", "?a"}}, true, false},
		{"the first one", crowd.Plan{Room: 2, N: 1, Keys: "ab", Workers: []string{"-a", "?b"}, Ahead: []int{2}}, true, false},
		{"the first one, which is freed", crowd.Plan{Room: 2, N: 1, Keys: "ab", Workers: []string{"-a", "?b"}, Drains: true, Ahead: []int{6, 2}}, true, false},
		{"one within", crowd.Plan{Room: 3, N: 1, Keys: "bac", Workers: []string{"-a", "?c"}, Ahead: []int{4}}, true, false},
		{"one within, which is freed", crowd.Plan{Room: 3, N: 1, Keys: "bac", Workers: []string{"-a", "?c"}, Drains: true, Ahead: []int{7, 3}}, true, false},
		{"the last one", crowd.Plan{Room: 2, N: 1, Keys: "ba", Workers: []string{"-a", "?a"}, Ahead: []int{3}}, true, false},
		{"two of one key", crowd.Plan{Room: 2, N: 1, Keys: "ab", Workers: []string{"-a", "-a"}}, true, true},
		{"two of one bucket, the one ahead of the other", crowd.Plan{Room: 3, N: 1, Keys: "abc", Workers: []string{"-a", "-b"}}, true, false},
		{"two of one bucket, and a get", crowd.Plan{Room: 3, N: 1, Keys: "abc", Workers: []string{"-a", "-b", "?c"}, Ahead: []int{6, 1, 4}}, true, false},
		{"two of two buckets", crowd.Plan{Room: 2, N: 2, Keys: "ab", Workers: []string{"-a", "-b"}, Ahead: []int{3}}, true, false},
		{"one key twice, and one who frees", crowd.Plan{Room: 2, N: 1, Keys: "ab", Workers: []string{"-a-a"}, Drains: true}, true, true},
		{"a put of the key beside", crowd.Plan{Room: 2, N: 1, Keys: "a", Workers: []string{"-a", "+a"}}, true, false},
		{"a put of the key beside, which is new", crowd.Plan{Room: 1, N: 1, Workers: []string{"-a", "+a"}}, true, true},
		{"a put of another key of the bucket", crowd.Plan{Room: 3, N: 1, Keys: "ba", Workers: []string{"-a", "+b"}}, true, false},
		{"a put of another bucket, and no place but the one that is freed", crowd.Plan{Room: 1, N: 2, Keys: "a", Workers: []string{"-a", "+b"}, Drains: true, Ahead: []int{6, 3}}, true, false},
		{"taken out, and put in again", crowd.Plan{Room: 2, N: 1, Keys: "a", Workers: []string{"-a+a", "?a"}, Ahead: []int{4, 2}}, true, false},
		{"put in, and taken out again", crowd.Plan{Room: 1, N: 1, Workers: []string{"+a-a", "?a"}, Ahead: []int{6, 2}}, true, false},
		{"another table of as many buckets comes to count", crowd.Plan{Room: 1, N: 1, Keys: "a", Workers: []string{"-a"}, Moves: []int{1}}, true, false},
		{"another one of more buckets comes to count", crowd.Plan{Room: 3, N: 1, Keys: "abc", Workers: []string{"-b"}, Moves: []int{2}}, true, false},
		{"another one of less buckets comes to count", crowd.Plan{Room: 2, N: 2, Keys: "ab", Workers: []string{"-b"}, Moves: []int{1}}, true, false},
		{"two, and another table comes to count", crowd.Plan{Room: 2, N: 1, Keys: "a", Workers: []string{"-a", "-b"}, Moves: []int{2}, Ahead: []int{3}}, true, true},
	}
	for _, c := range cases {
		var n counts
		ends := trial.Explore(func() trial.World { return crowd.New(t, c.plan, maker(t, &n)) })
		if ends < 10 || (n.found > 0) != c.found || (n.missed > 0) != c.missed {
			t.Errorf("%s: there are %d ways, in which %v dels found something, or nothing", c.name, ends, n)
		}
	}
}

// P12.1, P12.2: the same for dels, puts and gets of 1 to 8 workers, of one bucket or of many, in ways that are picked.
func TestManyWays(t *testing.T) {
	var n counts
	for workers := 1; workers <= mostWorkers; workers++ {
		for seed := range uint32(20) {
			next := trial.Picker(seed*mostWorkers + uint32(workers))
			trial.Run(crowd.New(t, crowd.PickPlan(next, workers, "-+"), maker(t, &n)), next)
		}
	}
	if n.found < 500 || n.missed < 500 {
		t.Errorf("%v dels alone found something, or nothing", n)
	}
}

// row is a row of steps of dels of its workers, one each.
type row struct {
	*trial.Row
	t     *testing.T
	pairs []*pair
}

// newPair is a pair of a worker.
func (r *row) newPair(worker int) *pair { return newPair(r.t, worker, r.Key()) }

// newRow is a row of so many workers.
func newRow(t *testing.T, workers int, seed uint32) *row {
	t.Helper()
	r := &row{Row: trial.NewRow(t, workers, seed), t: t}
	for worker := range workers {
		r.pairs = append(r.pairs, r.newPair(worker))
	}
	return r
}

// counted is how many dels of rows were done, found something, and how many steps came to a stale handle.
type counted struct{ done, had, stale int }

// step has one of the dels take its step, ready or not. One that is done makes place for a new one.
func (r *row) step(c *counted) {
	r.t.Helper()
	worker := r.Next(len(r.pairs))
	x := r.pairs[worker]
	if x.p.Stale(r.M) {
		c.stale++
	}
	done := x.step(r.M, func() bool { return x.d.Step(r.M) })
	for _, x := range r.pairs {
		x.told()
	}
	if !done {
		return
	}
	c.done++
	if x.p.told.had {
		c.had++
	}
	r.pairs[worker] = r.newPair(worker)
}

// P12.1: long rows of steps of dels beside each other, ready or not, of nodes and chains that others change in whatever way, of locks that they take, of tables that come to count, and numbers that no table has: each does what its chapter says, and nothing else.
func TestRow(t *testing.T) {
	var c counted
	for workers := 1; workers <= mostWorkers; workers++ {
		for seed := range uint32(25) {
			r := newRow(t, workers, seed)
			for range 900 {
				if r.Next(3) == 0 {
					r.Disturb()
				}
				r.step(&c)
			}
		}
	}
	if c.done-c.had-c.stale < 500 || c.had < 300 || c.stale < 800 {
		t.Errorf("of %d dels %d found something, %d steps came to a stale handle", c.done, c.had, c.stale)
	}
}
