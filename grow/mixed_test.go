package grow

import (
	"testing"

	"quietus/beside"
	"quietus/crowd"
	"quietus/mem"
	"quietus/trial"
)

// changes are so many grows, of a table of n buckets.
func changes(n, times int) []beside.Change {
	var l []beside.Change
	for range times {
		n *= 2
		l = append(l, beside.Change{Make: func(worker int) mem.Frame { return New(worker) }, Path: []int{n}})
	}
	return l
}

// eachWay goes through all ways in which the steps of so many grows of such rows, of workers' gets, and of one who frees, if there is one, can be mixed.
func eachWay(t *testing.T, rows []string, times int, drains bool, gets ...[]beside.Asked) {
	t.Helper()
	beside.EachWay(t, beside.Scene{Keys: keysIn(rows...), Changes: changes(len(rows), times), Gets: gets, Drains: drains})
}

// P13.3: however the steps of a grow, and of a get, of whichever key, by another worker, are mixed, of whichever chain: the get finds what there is, in as many steps as it may take; no handle that is stale is used; somebody is ready till both are done.
func TestAllWaysOfOne(t *testing.T) {
	eachRow(5, func(row string) {
		for _, a := range allAsked(row) {
			eachWay(t, []string{row}, 1, false, []beside.Asked{a})
		}
	})
}

// P13.3: the same of gets that follow each other, of two workers, of two chains, of a grow behind the other one, and of one who frees.
func TestAllWaysOfMany(t *testing.T) {
	for _, row := range []string{"10", "0110"} {
		all := allAsked(row)
		for i, a := range all {
			b := all[(i+1)%len(all)]
			eachWay(t, []string{row}, 1, false, []beside.Asked{a, b})
			eachWay(t, []string{row}, 1, false, []beside.Asked{a}, []beside.Asked{b})
			eachWay(t, []string{row}, 1, true, []beside.Asked{a})
		}
	}
	for _, rows := range [][]string{{"0101", "10"}, {"1", "011"}, {"010", "101"}} {
		for _, a := range allAsked(rows...) {
			eachWay(t, rows, 1, false, []beside.Asked{a})
			eachWay(t, rows, 2, false, []beside.Asked{a, a})
		}
	}
}

// maker makes puts, dels, and, by *, so many grows.
func maker(t *testing.T, most int) crowd.Maker {
	return beside.Maker(most, map[byte]func(c *crowd.Crowd, worker int) *crowd.Call{
		'*': func(_ *crowd.Crowd, worker int) *crowd.Call { return beside.Locked(t, worker, New(worker)) },
	})
}

// P13.2, P13.3: however the steps of one who grows, and of one who puts in, or takes out, are mixed, by the locks that each has to hold: what keys have is as it has to be, and each place is free, reached, waiting, or one thread's, ahead of each step.
func TestAllWaysOfChanges(t *testing.T) {
	for _, plan := range []crowd.Plan{
		{Room: 1, N: 1, Workers: []string{"*x", "+a"}},
		{Room: 3, N: 1, Keys: "abc", Workers: []string{"*x", "-b"}},
		{Room: 2, N: 1, Keys: "a", Workers: []string{"*x", "*x"}},
		{Room: 3, N: 1, Keys: "ab", Workers: []string{"?b", "*x", "+c"}, Ahead: []int{4, 16, 1}},
		{Room: 3, N: 1, Keys: "abc", Workers: []string{"?b", "-b", "*x"}, Ahead: []int{4, 7}},
		{Room: 3, N: 1, Keys: "abc", Workers: []string{"?c", "-b", "*x"}, Drains: true, Ahead: []int{5, 9, 14}},
	} {
		ends := trial.Explore(func() trial.World { return crowd.New(t, plan, maker(t, 2)) })
		if ends < 10 {
			t.Errorf("of %v there are %d ways alone", plan, ends)
		}
	}
}

// P13.2, P13.3: the same for grows, puts, dels and gets of 1 to 8 workers, and one who frees, of one bucket or of many, in ways that are picked.
func TestManyWays(t *testing.T) {
	grown := 0
	for workers := 1; workers <= mostWorkers; workers++ {
		for seed := range uint32(40) {
			next := trial.Picker(seed*mostWorkers + uint32(workers))
			plan := crowd.PickPlan(next, workers, "+-*")
			// By a plan's own moves chains would be changed without waiting for gets.
			plan.Moves = nil
			c := crowd.New(t, plan, maker(t, 3))
			trial.Run(c, next)
			if c.M.Now().N > plan.N {
				grown++
			}
		}
	}
	if grown < 300 {
		t.Errorf("of 320 crowds %d grew", grown)
	}
}
