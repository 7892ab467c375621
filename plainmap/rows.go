package plainmap

import (
	"slices"

	"quietus/calls"
	"quietus/trial"
)

// Rows are each worker's calls that aren't done.
type Rows [][]Refused

// Some says who have calls left.
func (r Rows) Some() []int {
	var l []int
	for worker, left := range r {
		if len(left) > 0 {
			l = append(l, worker)
		}
	}
	return l
}

// Cut is a worker's next call, which is none of those left then.
func (r Rows) Cut(worker int) Refused {
	c := r[worker][0]
	r[worker] = r[worker][1:]
	return c
}

// Calls are the calls themselves, each worker's.
func (r Rows) Calls() [][]calls.Call {
	l := make([][]calls.Call, len(r))
	for worker, row := range r {
		for _, c := range row {
			l[worker] = append(l[worker], c.Call)
		}
	}
	return l
}

// mayBe are calls that may be.
func mayBe(l ...calls.Call) []Refused {
	var all []Refused
	for _, c := range l {
		all = append(all, Refused{Call: c})
	}
	return all
}

// Doer does the calls of rows one after the other, on a memory, and on the abstract map, which has to answer the same.
type Doer interface {
	// Some says who have calls left.
	Some() []int
	// Do does a worker's next call, and Drain frees all that waits.
	Do(worker int)
	Drain()
	// Check looks at the memory between two calls, and End behind all of them.
	Check()
	End()
	// Refusals is how many Puts were refused as no place was free, and how many of these were of keys that were there.
	Refusals() (full, replacing int)
}

// ShortRows has all short rows of calls be done, of a worker alone, and of two by turns, call by call, with drains ahead of every other call, of arenas of 1 to 3 places.
func ShortRows(fresh func(room int, r Rows) Doer) {
	short := Short()
	n := len(short)
	for row := range n * n * n * n {
		l := mayBe(short[row%n], short[row/n%n], short[row/n/n%n], short[row/n/n/n])
		room := 1 + row%3
		one := fresh(room, Rows{l})
		two := fresh(room, Rows{{l[0], l[2]}, {l[1], l[3]}})
		for i := range l {
			one.Do(0)
			two.Do(i % 2)
			if i%2 == row/3%2 {
				one.Drain()
				two.Drain()
			}
		}
		one.End()
		two.End()
	}
}

// LongRows has long rows of calls be done, of 1 to 8 workers, each of so many at most, call by call, that are picked, in small arenas and in larger ones, in tables of so many buckets at most, calls that are refused among them, with drains between them.
func LongRows(t trial.T, most, buckets int, fresh func(room int, r Rows) Doer) {
	t.Helper()
	allFull, allReplacing := 0, 0
	for workers := 1; workers <= mostWorkers; workers++ {
		for _, room := range []int{1, 2, 5, 12, 40} {
			next := trial.Picker(uint32(workers*64 + room))
			d := fresh(room, pickRows(next, workers, most, buckets))
			longRow(d, next)
			full, replacing := d.Refusals()
			allFull, allReplacing = allFull+full, allReplacing+replacing
		}
	}
	if least := 3 * most; allFull-allReplacing < least || allReplacing < least {
		t.Fatalf("of %d Puts that were refused %d were of keys that were there", allFull, allReplacing)
	}
}

// longRow has rows be done by picks.
func longRow(d Doer, next func(n int) int) {
	for l := d.Some(); len(l) > 0; l = d.Some() {
		d.Do(l[next(len(l))])
		if next(6) == 0 {
			d.Drain()
		}
		d.Check()
	}
	d.End()
}

// pickRows are rows that are picked.
func pickRows(next func(n int) int, workers, most, buckets int) Rows {
	r := make(Rows, workers)
	for range workers * most {
		c := PickAny(next)
		if slices.Contains(trial.Powers(), c.Size) {
			c.Size = min(c.Size, buckets)
		}
		if worker := next(workers); len(r[worker]) < most {
			r[worker] = append(r[worker], c)
		}
	}
	return r
}
