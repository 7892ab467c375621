package shrink

import (
	"testing"

	"quietus/api"
	"quietus/beside"
	"quietus/crowd"
	"quietus/grow"
	"quietus/mem"
	"quietus/trial"
)

// The marks of those who have another table count.
const (
	grows = '*'
	halve = '/'
)

// changesOf are grows and shrinks, by their marks, one after the other, of a table that has n buckets ahead of them.
func changesOf(n int, marks string) []beside.Change {
	var l []beside.Change
	for _, mark := range marks {
		if mark == grows {
			n *= 2
			l = append(l, beside.Change{Make: func(worker int) mem.Frame { return grow.New(worker) }, Path: []int{n}})
		} else {
			n /= 2
			l = append(l, beside.Change{Make: func(worker int) mem.Frame { return New(worker) }, Path: []int{n}})
		}
	}
	return l
}

// eachWay goes through all ways in which the steps of grows and shrinks, by their marks, of chains of such lengths, of workers' gets, and of one who frees, if there is one, can be mixed.
func eachWay(t *testing.T, lengths []int, marks string, drains bool, gets ...[]beside.Asked) {
	t.Helper()
	beside.EachWay(t, beside.Scene{Keys: keysIn(lengths...), Changes: changesOf(len(lengths), marks), Gets: gets, Drains: drains})
}

// P14.3: however the steps of a shrink, and of a get, of whichever key, by another worker, are mixed, of whichever two chains: the get finds what there is, in as many steps as it may take; no handle that is stale is used; somebody is ready till both are done.
func TestAllWaysOfOne(t *testing.T) {
	eachPair(4, func(first, second int) {
		for _, a := range allAsked(first, second) {
			eachWay(t, []int{first, second}, "/", false, []beside.Asked{a})
		}
	})
}

// P14.3: the same of gets that follow each other, of two workers, and of one who frees.
func TestAllWaysOfMany(t *testing.T) {
	for _, lengths := range [][]int{{1, 1}, {2, 1}, {0, 2}} {
		all := allAsked(lengths...)
		for i, a := range all {
			b := all[(i+1)%len(all)]
			eachWay(t, lengths, "/", false, []beside.Asked{a, b})
			eachWay(t, lengths, "/", false, []beside.Asked{a}, []beside.Asked{b})
			eachWay(t, lengths, "/", true, []beside.Asked{a})
		}
	}
}

// P14.3: the same of tables of more buckets, of shrinks behind each other, and of shrinks ahead of grows, and behind them.
func TestAllWaysOfMore(t *testing.T) {
	for _, c := range []struct {
		lengths []int
		marks   string
	}{
		{[]int{2, 1, 1, 2}, "/"}, {[]int{0, 2, 2, 0}, "/"},
		{[]int{1, 1, 2, 0}, "//"}, {[]int{0, 1, 1, 1}, "//"},
		{[]int{2, 2}, "/*"}, {[]int{1, 2}, "/*"}, {[]int{0, 1, 2, 1}, "/*"},
		{[]int{3}, "*/"}, {[]int{2, 1}, "*/"}, {[]int{1, 1}, "*//*"},
	} {
		for _, a := range allAsked(c.lengths...) {
			eachWay(t, c.lengths, c.marks, false, []beside.Asked{a, a})
		}
	}
}

// halving is a shrink of a crowd, that may fail of one bucket.
type halving struct {
	*Shrink
	c *crowd.Crowd
}

// Err is the error, but the one that it may have.
func (h *halving) Err() api.Errno {
	e := h.Shrink.Err()
	if e == api.ErrSize && h.c.M.Now().N == 1 {
		return api.OK
	}
	return e
}

// counts is how many shrinks of crowds were done, and failed.
type counts struct{ done, failed int }

// Step has a shrink of a crowd take its step, and counts those that are done.
func (h *counted) Step(m *mem.Mem) bool {
	done := h.halving.Step(m)
	switch {
	case done && h.Shrink.Err() != api.OK:
		h.n.failed++
	case done:
		h.n.done++
	}
	return done
}

// counted is a shrink of a crowd that is counted.
type counted struct {
	halving
	n *counts
}

// maker makes puts, dels, and, by their marks, so many grows and shrinks.
func maker(t *testing.T, most int, n *counts) crowd.Maker {
	return beside.Maker(most, map[byte]func(c *crowd.Crowd, worker int) *crowd.Call{
		grows: func(_ *crowd.Crowd, worker int) *crowd.Call { return beside.Locked(t, worker, grow.New(worker)) },
		halve: func(c *crowd.Crowd, worker int) *crowd.Call {
			return beside.Locked(t, worker, &counted{halving{New(worker), c}, n})
		},
	})
}

// P14.2, P14.3: however the steps of one who shrinks, and of one who puts in, or takes out, are mixed, by the locks that each has to hold: what keys have is as it has to be, and each place is free, reached, waiting, or one thread's, ahead of each step.
func TestAllWaysOfChanges(t *testing.T) {
	for _, plan := range []crowd.Plan{
		{Room: 1, N: 2, Workers: []string{"/x", "+a"}},
		{Room: 4, N: 2, Keys: "abcd", Workers: []string{"/x", "-b"}},
		{Room: 4, N: 4, Keys: "abc", Workers: []string{"/x", "+d"}},
		{Room: 2, N: 1, Keys: "a", Workers: []string{"/x", "/x"}},
		{Room: 2, N: 2, Keys: "ab", Workers: []string{"*x", "/x"}},
		{Room: 3, N: 2, Keys: "ab", Workers: []string{"?b", "/x", "+c"}, Ahead: []int{4, 12, 1}},
		{Room: 3, N: 2, Keys: "abc", Workers: []string{"?b", "-b", "/x"}, Ahead: []int{4, 7}},
		{Room: 3, N: 2, Keys: "abc", Workers: []string{"?c", "-b", "/x"}, Drains: true, Ahead: []int{5, 8, 14}},
	} {
		var n counts
		ends := trial.Explore(func() trial.World { return crowd.New(t, plan, maker(t, 2, &n)) })
		if ends < 10 || n.done+n.failed < ends || (n.failed > 0) != (plan.N == 1) {
			t.Errorf("of %v there are %d ways alone; %v shrinks were done, and failed", plan, ends, n)
		}
	}
}

// P14.2, P14.3: the same for shrinks, grows, puts, dels and gets of 1 to 8 workers, and one who frees, of one bucket or of many, in ways that are picked.
func TestManyWays(t *testing.T) {
	var n counts
	for workers := 1; workers <= mostWorkers; workers++ {
		for seed := range uint32(40) {
			next := trial.Picker(seed*mostWorkers + uint32(workers))
			plan := crowd.PickPlan(next, workers, "+-*//")
			// By a plan's own moves chains would be changed without waiting for gets.
			plan.Moves = nil
			trial.Run(crowd.New(t, plan, maker(t, 5, &n)), next)
		}
	}
	if n.done < 400 || n.failed < 100 {
		t.Errorf("%v shrinks alone were done, and failed", n)
	}
}
