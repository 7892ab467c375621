package calls_test

import (
	"fmt"
	"slices"
	"testing"

	"quietus/api"
	. "quietus/calls"
	"quietus/crowd"
	"quietus/plainmap"
	"quietus/trial"
)

// none is what a key has that isn't there: no value of a crowd is empty.
const none = ""

// flight is a call of a crowd, from the time on at which its turn comes.
type flight struct {
	t   *testing.T
	c   *crowd.Crowd
	run *Run
	Call
	// refused is Check's error of it.
	refused     api.Errno
	begun, over bool
	// changed says whether it had its key have another value, and was is the one that the key had ahead of that.
	changed bool
	was     string
	// since is what its key has had since it began, and full whether no place was free ahead of one of its steps.
	since []string
	full  bool
	count func(Result)
}

// val is what its key has to have now.
func (x *flight) val() string { return x.c.Vals[x.Key] }

// changes says whether its key has, by the memory, what the call has it have, though it had something else.
func (x *flight) changes() bool {
	val, had := trial.ValOf(x.c.M, x.Key)
	switch x.Kind {
	case putKind:
		return val == x.Val && x.val() != x.Val
	case deleteKind:
		return !had && x.val() != none
	}
	return false
}

// step has it take its step: from the one on by which its key has another value that is what the key has to have.
func (x *flight) step(take func() bool) bool {
	x.t.Helper()
	x.begun = true
	x.since = append(x.since, x.val())
	x.full = x.full || x.c.M.Arena.Spare() == 0
	x.over = take()
	if x.changes() {
		x.changed, x.was = true, x.val()
		x.c.Vals[x.Key] = x.Val
		if x.Kind == deleteKind {
			delete(x.c.Vals, x.Key)
		}
	}
	if x.over {
		x.answered()
	}
	return x.over
}

// answered says whether it answers what there was at some time while it was on its way: one that changed what its key has by that step, others between any two.
func (x *flight) answered() {
	x.t.Helper()
	r, _ := x.run.Result()
	var want Result
	ok := true
	switch {
	case x.refused != api.OK:
		want = Result{Err: x.refused}
	case x.Kind == getKind:
		want, ok = found(r.Val, r.Val != none), slices.Contains(x.since, r.Val)
	case x.Kind == deleteKind:
		want, ok = found(x.was, x.changed), x.changed || slices.Contains(x.since, none)
	case x.Kind == putKind && x.changed:
		want = Result{Had: x.was != none}
	case x.Kind == putKind:
		want, ok = Result{Err: api.ErrFull}, x.full
	case !slices.Contains(trial.Powers(), x.Size):
		want = Result{Err: api.ErrSize}
	}
	if r != want || !ok {
		x.t.Fatalf("%#v answers %v, not %v; meanwhile its key had %q", x.Call, r, want, x.since)
	}
	x.count(r)
}

// told says whether it answers nothing till it is done, and keeps what its key has now.
func (x *flight) told() {
	x.t.Helper()
	if r, done := x.run.Result(); done != x.over || !done && r != (Result{}) {
		x.t.Fatalf("%#v: Result = %v, %v", x.Call, r, done)
	}
	if x.begun {
		x.since = append(x.since, x.val())
	}
}

// counts is how many calls of crowds answered what.
type counts struct{ had, missed, full, size, key int }

// count counts an answer.
func (n *counts) count(r Result) {
	switch {
	case r.Err == api.ErrFull:
		n.full++
	case r.Err == api.ErrSize:
		n.size++
	case r.Err != api.OK:
		n.key++
	case r.Had:
		n.had++
	default:
		n.missed++
	}
}

// callOf is a call by a crowd's mark: + a Put, of a value that no other one has, - a Delete, g a Get, ! one that is refused; else a Resize, to 16, by h, or to that digit.
func callOf(mark byte, key string, made int) (c Call, refused api.Errno) {
	switch mark {
	case '+':
		return Call{Kind: putKind, Key: key, Val: fmt.Sprint(key, made)}, api.OK
	case '-':
		return Call{Kind: deleteKind, Key: key}, api.OK
	case 'g':
		return Call{Kind: getKind, Key: key}, api.OK
	case '!':
		wrong := plainmap.AllRefused()[made%len(plainmap.AllRefused())]
		return wrong.Call, wrong.Err
	case 'h':
		return Call{Kind: resizeKind, Size: 16}, api.OK
	}
	return Call{Kind: resizeKind, Size: int(mark - '0')}, api.OK
}

// maker makes calls on their way, and counts what they answer.
func maker(t *testing.T, n *counts) crowd.Maker {
	made := 0
	return func(c *crowd.Crowd, worker int, mark byte, key string) *crowd.Call {
		made++
		call, refused := callOf(mark, key, made)
		x := &flight{t: t, c: c, run: New(worker, call), Call: call, refused: refused, count: n.count}
		return &crowd.Call{Frame: x.run, Step: x.step, Told: x.told, Mine: x.run.Mine}
	}
}

// P16.1, W1 to W4: however the steps of calls on their way, of those of other layers' gets, and of one who frees what waits, are mixed: each call answers what there was at some time while it was on its way; what keys have is as it has to be, each place is free, reached, waiting, or one thread's, by Mine, one of these alone, ahead of each step; the flag stays down; somebody is ready till all are done.
func TestAllWays(t *testing.T) {
	for _, c := range []struct {
		plan crowd.Plan
		// full says whether Puts are refused in some of the ways.
		full bool
	}{
		{crowd.Plan{Room: 1, N: 1, Workers: []string{"+a", "ga"}}, false},
		{crowd.Plan{Room: 2, N: 1, Keys: "b", Workers: []string{"+a", "gagaga"}, Ahead: []int{5}}, false},
		{crowd.Plan{Room: 3, N: 1, Keys: "ab", Workers: []string{"+a", "gb"}, Drains: true, Ahead: []int{6, 2}}, false},
		{crowd.Plan{Room: 2, N: 1, Keys: "ab", Workers: []string{"+a", "ga"}}, true},
		{crowd.Plan{Room: 2, N: 1, Keys: "a", Workers: []string{"+a+a"}, Drains: true}, true},
		{crowd.Plan{Room: 1, N: 2, Workers: []string{"+a", "+b"}}, true},
		{crowd.Plan{Room: 3, N: 1, Keys: "bac", Workers: []string{"-a", "gc"}, Drains: true, Ahead: []int{7, 3}}, false},
		{crowd.Plan{Room: 2, N: 1, Keys: "ab", Workers: []string{"-a", "-a"}}, false},
		{crowd.Plan{Room: 2, N: 1, Keys: "a", Workers: []string{"-a+a", "ga"}, Ahead: []int{4, 2}}, false},
		{crowd.Plan{Room: 1, N: 1, Workers: []string{"+a-a", "ga"}, Ahead: []int{6, 2}}, false},
		{crowd.Plan{Room: 2, N: 1, Keys: "a", Workers: []string{"+a", "-a", "!x!x"}, Ahead: []int{5}}, false},
		{crowd.Plan{Room: 2, N: 2, Keys: "ab", Workers: []string{"1x", "gb"}, Ahead: []int{6, 2}}, false},
		{crowd.Plan{Room: 2, N: 1, Keys: "ab", Workers: []string{"2x", "gb"}, Ahead: []int{8, 2}}, false},
		{crowd.Plan{Room: 3, N: 1, Keys: "abc", Workers: []string{"2x", "-b"}}, false},
		{crowd.Plan{Room: 4, N: 2, Keys: "abc", Workers: []string{"4x", "+d"}}, false},
		{crowd.Plan{Room: 4, N: 2, Keys: "abc", Workers: []string{"2x3x", "3x1x"}}, false},
		{crowd.Plan{Room: 3, N: 1, Keys: "ab", Workers: []string{"1x", "+c-a"}}, false},
		{crowd.Plan{Room: 3, N: 2, Keys: "abc", Workers: []string{"1x", "8x", "4x"}}, false},
		{crowd.Plan{Room: 3, N: 2, Keys: "ab", Workers: []string{"gb", "1x", "+c"}, Ahead: []int{4, 8, 1}}, false},
		{crowd.Plan{Room: 3, N: 2, Keys: "abc", Workers: []string{"gc", "-b", "1x"}, Drains: true, Ahead: []int{5, 8, 14}}, false},
	} {
		var n counts
		ends := trial.Explore(func() trial.World { return crowd.New(t, c.plan, maker(t, &n)) })
		if ends < 5 || (n.full > 0) != c.full {
			t.Errorf("of %v there are %d ways, whose answers are %v", c.plan, ends, n)
		}
	}
}

// P16.1, W1 to W4: the same for calls of 1 to 8 workers, and one who frees, of one bucket or of many, in ways that are picked.
func TestManyWays(t *testing.T) {
	var n counts
	for workers := 1; workers <= mostWorkers; workers++ {
		for seed := range uint32(30) {
			next := trial.Picker(seed*mostWorkers + uint32(workers))
			plan := crowd.PickPlan(next, workers, "++++---ggggg!124h3")
			// By a plan's own moves chains would be changed without waiting for gets.
			plan.Moves = nil
			trial.Run(crowd.New(t, plan, maker(t, &n)), next)
		}
	}
	if n.had < 1000 || n.missed < 1000 || n.full < 300 || n.size < 300 || n.key < 300 {
		t.Errorf("the answers are %v alone", n)
	}
}
