package resize

import (
	"testing"

	"quietus/api"
	"quietus/beside"
	"quietus/crowd"
	"quietus/mem"
	"quietus/trial"
)

// wrongSize is one that may not be.
const wrongSize = 3

// eachWay goes through all ways in which the steps of resizes to such sizes, one after the other, of such keys, of workers' gets, and of one who frees, if there is one, can be mixed.
func eachWay(t *testing.T, keys [][]string, sizes []int, drains bool, gets ...[]beside.Asked) {
	t.Helper()
	scene := beside.Scene{Keys: keys, Locks: true, Gets: gets, Drains: drains}
	n := len(keys)
	for _, size := range sizes {
		c := beside.Change{Make: func(worker int) mem.Frame { return New(worker, size) }}
		if size != wrongSize {
			c.Path, n = pathOf(n, size), size
		}
		scene.Changes = append(scene.Changes, c)
	}
	beside.EachWay(t, scene)
}

// W1, W2, W3: however the steps of a resize, and of a get, of whichever key, by another worker, are mixed: the get finds what there is, in as many steps as it may take; no handle that is stale is used; somebody is ready till both are done.
func TestAllWaysOfOne(t *testing.T) {
	for _, c := range someSizes() {
		for length := range 4 {
			keys := trial.KeysByTurns(c[0], length)
			for _, a := range beside.AllAsked(keys, max(c[0], c[1])) {
				eachWay(t, keys, []int{c[1]}, false, []beside.Asked{a})
			}
		}
	}
}

// W1, W2, W3: the same of resizes behind each other, to whichever sizes, of gets that follow each other, of two workers, and of one who frees.
func TestAllWaysOfMany(t *testing.T) {
	for _, c := range []struct {
		n     int
		sizes []int
		// most says whether there are too many states of more threads than two.
		most bool
	}{
		{1, []int{2}, false}, {2, []int{1, 2}, false}, {2, []int{wrongSize, 2, 1}, false}, {4, []int{2}, false},
		{1, []int{4, 1}, true}, {8, []int{2, 4}, true},
	} {
		keys := trial.Spread(someKeys(3), c.n)
		all := beside.AllAsked(keys, max(c.n, 2))
		for i, a := range all {
			b := all[(i+1)%len(all)]
			eachWay(t, keys, c.sizes, false, []beside.Asked{a, b})
			if c.most {
				continue
			}
			eachWay(t, keys, c.sizes, false, []beside.Asked{a}, []beside.Asked{b})
			eachWay(t, keys, c.sizes, true, []beside.Asked{a})
		}
	}
}

// The marks of resizes to sizes, and to one that may not be.
func sizeOf(mark byte) int {
	switch mark {
	case 'h':
		return 16
	default:
		return int(mark - '0')
	}
}

// told is a resize of a crowd, that may fail of a wrong size, and tells its size as it is done.
type told struct {
	*Resize
	size  int
	tells func(size int)
}

// Err is the error, but the one that it has to have.
func (x *told) Err() api.Errno {
	e := x.Resize.Err()
	if e == api.ErrSize && x.size == wrongSize {
		return api.OK
	}
	return e
}

// Step takes the resize's step.
func (x *told) Step(m *mem.Mem) bool {
	done := x.Resize.Step(m)
	if done {
		x.tells(x.size)
	}
	return done
}

// resizers are a crowd of which the table has to have the size of the one that had the locks last.
type resizers struct {
	*crowd.Crowd
	t *testing.T
	// last is that size; how many of them were done is counted.
	last, done int
}

// newResizers is a crowd of a plan, with so many resizes at most.
func newResizers(t *testing.T, plan crowd.Plan, most int) *resizers {
	t.Helper()
	x := &resizers{t: t, last: plan.N}
	tells := func(size int) {
		x.done++
		if size != wrongSize {
			x.last = size
		}
	}
	made := map[byte]func(c *crowd.Crowd, worker int) *crowd.Call{}
	for _, mark := range []byte("12348h") {
		made[mark] = func(_ *crowd.Crowd, worker int) *crowd.Call {
			size := sizeOf(mark)
			return beside.Call(t, &told{New(worker, size), size, tells})
		}
	}
	x.Crowd = crowd.New(t, plan, beside.Maker(most, made))
	return x
}

// End says whether the table has the size that it has to have, beside all else.
func (x *resizers) End() {
	x.t.Helper()
	x.Crowd.End()
	if n := x.M.Now().N; n != x.last {
		x.t.Fatalf("the table has %d buckets, not %d", n, x.last)
	}
}

// P15.2, W1, W2, W4: however the steps of resizes, of each other, and of one who puts in, takes out, or gets, are mixed: each is done, and what keys have is as it has to be, and each place is free, reached, waiting, or one thread's, ahead of each step; the table has the size of the resize that had the locks last.
func TestAllWaysOfChanges(t *testing.T) {
	for _, plan := range []crowd.Plan{
		{Room: 1, N: 1, Workers: []string{"2x", "+a"}},
		{Room: 4, N: 2, Keys: "abcd", Workers: []string{"1x", "-b"}},
		{Room: 4, N: 2, Keys: "abc", Workers: []string{"4x", "+d"}},
		{Room: 4, N: 4, Keys: "abc", Workers: []string{"2x", "+d"}},
		{Room: 3, N: 1, Keys: "ab", Workers: []string{"1x", "+c-a"}},
		{Room: 3, N: 1, Keys: "abc", Workers: []string{"4x", "2x"}},
		{Room: 3, N: 2, Keys: "abc", Workers: []string{"1x", "8x", "4x"}},
		{Room: 3, N: 2, Keys: "abc", Workers: []string{"2x3x", "3x1x"}},
		{Room: 3, N: 2, Keys: "ab", Workers: []string{"1x", "4x", "+a"}, Ahead: []int{14, 0, 1}},
		{Room: 3, N: 2, Keys: "ab", Workers: []string{"?b", "1x", "+c"}, Ahead: []int{4, 8, 1}},
		{Room: 3, N: 1, Keys: "ab", Workers: []string{"?b", "2x", "+c"}, Ahead: []int{4, 10, 1}},
		{Room: 3, N: 2, Keys: "abc", Workers: []string{"?b", "-b", "4x"}, Ahead: []int{4, 7}},
		{Room: 3, N: 2, Keys: "abc", Workers: []string{"?c", "-b", "1x"}, Drains: true, Ahead: []int{5, 8, 14}},
	} {
		if ends := trial.Explore(func() trial.World { return newResizers(t, plan, 4) }); ends < 2 {
			t.Errorf("of %v there are %d ways alone", plan, ends)
		}
	}
}

// W1 to W5: the same for resizes, puts, dels and gets of 1 to 8 workers, and one who frees, of one bucket or of many, in ways that are picked.
func TestManyWays(t *testing.T) {
	done := 0
	for workers := 1; workers <= mostWorkers; workers++ {
		for seed := range uint32(40) {
			next := trial.Picker(seed*mostWorkers + uint32(workers))
			plan := crowd.PickPlan(next, workers, "+-+-12348h")
			// By a plan's own moves chains would be changed without waiting for gets.
			plan.Moves = nil
			x := newResizers(t, plan, 12)
			trial.Run(x, next)
			done += x.done
		}
	}
	if done < 2500 {
		t.Errorf("%d resizes alone were done", done)
	}
}
