package shrink

import (
	"slices"
	"testing"

	"quietus/mem"
	"quietus/trial"
)

// These are written out, so that the tests don't lean on the names that they hold.
const (
	mostWorkers = 8
	mostNodes   = 1024
	mostBuckets = 65536
	mostCells   = 1048576
	periodCell  = 0
	currentCell = 1
	periodLock  = 0
	// far is how far apart the handles of one place are, from one generation to the next.
	far = 65536
	// somebody is the number of one who has locks, and is no worker.
	somebody = 1000
	// most is more steps than any shrink of the tests has to take.
	most = 1000000
)

// A shrink is a frame.
var _ mem.Frame = (*Shrink)(nil)

// Where a plain shrink is.
const (
	atLoad = iota
	atTable
	atChains
	atCount
	atWait
	atEnd
)

// plain is a shrink told by its chapter's words.
type plain struct {
	worker int
	at     int
	// number is of the table that comes to count.
	number       int
	elder, newer mem.Desc
	// bucket is the newer table's whose chains come to be one, and left are the steps by which they do that weren't taken.
	bucket int
	left   []step
	wait   trial.PlainWait
}

// step is what a memory comes to be by a step.
type step func(s trial.Seen) trial.Seen

// reads is a step that reads a cell, or a node.
func reads(s trial.Seen) trial.Seen { return s }

// Ready says whether its next step can be taken.
func (p *plain) Ready(s trial.Seen) bool { return p.at != atWait || p.wait.Ready(s) }

// Looks is at which worker's counter it looks by its next step, and whether it looks at one.
func (p *plain) Looks() (worker int, looks bool) {
	if p.at != atWait {
		return 0, false
	}
	return p.wait.Looks()
}

// Step is what the shrink's step has to come to, and whether the shrink is done by it.
func (p *plain) Step(before, after trial.Seen) (want trial.Seen, done bool) {
	switch p.at {
	case atLoad:
		p.elder, p.at = before.Tables[before.Words[currentCell]], atTable
	case atTable:
		return p.table(before), false
	case atChains:
		return p.chains(before), false
	case atCount:
		p.at, p.wait = atWait, trial.PlainWait{Worker: p.worker}
		return before.Word(currentCell, uint64(p.number)), false
	case atWait:
		if want, done = p.wait.Step(before, after); done {
			p.at = atEnd
		}
		return want, done
	}
	return before, false
}

// table is the step that makes a table.
func (p *plain) table(s trial.Seen) trial.Seen {
	p.newer, p.number = mem.Desc{N: p.elder.N / 2, Base: len(s.Words)}, len(s.Tables)
	s.Words = append(slices.Clone(s.Words), make([]uint64, p.newer.N)...)
	s.Tables = append(slices.Clone(s.Tables), p.newer)
	p.at, p.left = atChains, p.steps(s)
	return s
}

// chains is a step by which the two chains of a bucket come to be one. Behind its last one it is the next bucket's turn.
func (p *plain) chains(s trial.Seen) trial.Seen {
	s = p.left[0](s)
	p.left = p.left[1:]
	if len(p.left) > 0 {
		return s
	}
	p.bucket++
	if p.bucket < p.newer.N {
		p.left = p.steps(s)
	} else {
		p.at = atCount
	}
	return s
}

// steps are those by which the two chains of a bucket come to be one: both cells are loaded; if both have nodes, those of the first one are read, and its last one comes to have the second one's first one as its Next; the first node of all comes into the bucket's cell.
func (p *plain) steps(s trial.Seen) []step {
	first, second := s.Chain(p.elder.Base+p.bucket), s.Chain(p.elder.Base+p.bucket+p.newer.N)
	l := []step{reads, reads}
	if len(first) > 0 && len(second) > 0 {
		l = append(l, slices.Repeat([]step{reads}, len(first))...)
		l = append(l, func(s trial.Seen) trial.Seen { return s.Linked(first[len(first)-1], second[0]) })
	}
	cell := p.newer.Base + p.bucket
	if all := slices.Concat(first, second); len(all) > 0 {
		l = append(l, func(s trial.Seen) trial.Seen { return s.Word(cell, uint64(all[0])) })
	}
	return l
}

// pair is a shrink, and the plain one that tells what it has to do.
type pair struct {
	trial.Pair
	p *plain
}

// newPair is a pair that took no step.
func newPair(t *testing.T, worker int) *pair {
	t.Helper()
	p := &plain{worker: worker}
	x := &pair{trial.Pair{T: t, F: New(worker), P: p}, p}
	x.Tells("New")
	return x
}

// shrunk is what a memory has to be when a table has come to count that has half the buckets of the one that counted, each with the nodes of both, those of the first one first.
func shrunk(s trial.Seen) trial.Seen {
	elder, newer := s.Tables[s.Words[currentCell]], len(s.Words)
	n := elder.N / 2
	s = s.Period(s.Words[periodCell]+1).Word(currentCell, uint64(len(s.Tables)))
	s.Words = append(s.Words, make([]uint64, n)...)
	s.Tables = append(slices.Clone(s.Tables), mem.Desc{N: n, Base: newer})
	is := s
	for bucket := range n {
		all := slices.Concat(is.Chain(elder.Base+bucket), is.Chain(elder.Base+bucket+n))
		s.Words[newer+bucket] = uint64(trial.At(all, 0))
		for i, h := range all {
			s = s.Linked(h, trial.At(all, i+1))
		}
	}
	return s
}

// keysIn are keys of chains of such lengths, bucket by bucket.
func keysIn(lengths ...int) [][]string {
	keys := make([][]string, len(lengths))
	for bucket, length := range lengths {
		keys[bucket] = trial.KeysOf(bucket, len(lengths), length)
	}
	return keys
}

// newMem is a memory of chains of such lengths, whose worker holds the locks that it has to, and their keys.
func newMem(t *testing.T, workers, worker int, lengths ...int) (*mem.Mem, [][]string) {
	t.Helper()
	keys := keysIn(lengths...)
	return trial.HeldTable(t, workers, worker, keys), keys
}

// half is what there has to be of such keys, of half as many buckets.
func half(keys [][]string) [][]string { return trial.Spread(keys, len(keys)/2) }

// stepsOf is how many steps a shrink of chains of such lengths takes, alone: one loads the number, one makes the table, one has it count, and there is a wait behind that; each cell is loaded; of two chains that both have nodes those of the first one are read, and one is linked; and for each bucket that has nodes one is stored.
func stepsOf(workers int, lengths ...int) int {
	steps, n := 3+3+workers, len(lengths)/2
	for bucket := range n {
		first, second := lengths[bucket], lengths[bucket+n]
		steps += 2 + min(1, first+second)
		if first > 0 && second > 0 {
			steps += first + 1
		}
	}
	return steps
}

// lengthsOf are the lengths of keys' chains.
func lengthsOf(keys [][]string) []int {
	var l []int
	for _, own := range keys {
		l = append(l, len(own))
	}
	return l
}

// shrinks has a shrink take all steps, alone, and looks at each, and at what all come to.
func shrinks(t *testing.T, workers, worker int, lengths ...int) *mem.Mem {
	t.Helper()
	m, keys := newMem(t, workers, worker, lengths...)
	before := trial.Look(m)
	x := newPair(t, worker)
	before.Check(t, m, "New")
	if took := x.Finish(m); took != stepsOf(workers, lengths...) {
		t.Fatalf("of %v, of %d workers, it takes %d steps, not %d", lengths, workers, took, stepsOf(workers, lengths...))
	}
	shrunk(before).Check(t, m, "shrunk")
	trial.CheckTable(t, m, half(keys))
	return m
}

// eachPair does something for each two chains of up to so many nodes each.
func eachPair(length int, do func(first, second int)) {
	for first := range length + 1 {
		for second := range length + 1 {
			do(first, second)
		}
	}
}
