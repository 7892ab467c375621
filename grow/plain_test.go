package grow

import (
	"slices"
	"testing"

	"quietus/arena"
	"quietus/mem"
	"quietus/trial"
)

// These are written out, so that the tests don't lean on the names that they hold.
const (
	mostWorkers = 8
	mostNodes   = 1024
	mostBuckets = 65536
	mostCells   = 1048576
	periodCell  = 0
	currentCell = 1
	periodLock  = 0
	// far is how far apart the handles of one place are, from one generation to the next.
	far = 65536
	// somebody is the number of one who has locks, and is no worker.
	somebody = 1000
	// most is more steps than any grow of the tests has to take.
	most = 1000000
)

// A grow is a frame.
var _ mem.Frame = (*Grow)(nil)

// Where a plain grow is.
const (
	atLoad = iota
	atTable
	atChains
	atCount
	atWait
	atPart
	atEnd
)

// plain is a grow told by its chapter's words. In which order chains are looked through, first nodes stored, and chains parted the chapter leaves open.
type plain struct {
	t      *testing.T
	worker int
	at     int
	// number is of the table that comes to count.
	number       int
	elder, newer mem.Desc
	// reads is how many cells and nodes are yet to be read, and firsts are by their cells which first nodes are yet to be stored.
	reads  int
	firsts map[int]arena.Handle
	// wait is the wait that comes next, or is on its way.
	wait *trial.PlainWait
	// common are the elder table's buckets whose chains are yet to be parted in this pass.
	common map[int]bool
	// passes is how many passes there were.
	passes int
}

// Ready says whether its next step can be taken.
func (p *plain) Ready(s trial.Seen) bool { return p.at != atWait || p.wait.Ready(s) }

// Looks is at which worker's counter it looks by its next step, and whether it looks at one.
func (p *plain) Looks() (worker int, looks bool) {
	if p.at != atWait {
		return 0, false
	}
	return p.wait.Looks()
}

// waitAnew has it wait.
func (p *plain) waitAnew() { p.at, p.wait = atWait, &trial.PlainWait{Worker: p.worker} }

// Step is what the grow's step has to come to, and whether the grow is done by it.
func (p *plain) Step(before, after trial.Seen) (want trial.Seen, done bool) {
	p.t.Helper()
	if !p.Ready(before) {
		return before, false
	}
	switch p.at {
	case atLoad:
		p.elder, p.at = before.Tables[before.Words[currentCell]], atTable
	case atTable:
		return p.table(before), false
	case atChains:
		return p.chains(before, after), false
	case atCount:
		p.waitAnew()
		return before.Word(currentCell, uint64(p.number)), false
	case atPart:
		return p.part(before, after), false
	default:
		return p.waitOn(before, after)
	}
	return before, false
}

// table is the step that makes a table, and has what is to be done by it be told.
func (p *plain) table(before trial.Seen) trial.Seen {
	p.newer, p.number = mem.Desc{N: 2 * p.elder.N, Base: len(before.Words)}, len(before.Tables)
	before.Words = append(slices.Clone(before.Words), make([]uint64, p.newer.N)...)
	before.Tables = append(slices.Clone(before.Tables), p.newer)
	p.at, p.firsts = atChains, map[int]arena.Handle{}
	for bucket := range p.elder.N {
		l := before.Chain(p.elder.Base + bucket)
		p.reads += 1 + len(l)
		for _, half := range []int{bucket, bucket + p.elder.N} {
			if own := before.Own(l, half, p.newer.N); len(own) > 0 {
				p.firsts[p.newer.Base+half] = own[0]
			}
		}
	}
	return before
}

// chains is a step by which a cell or a node is read, or a first node comes into its cell, which is one by which a word is changed.
func (p *plain) chains(before, after trial.Seen) trial.Seen {
	p.t.Helper()
	cell := 0
	for i := range min(len(before.Words), len(after.Words)) {
		if before.Words[i] != after.Words[i] {
			cell = i
		}
	}
	first, ok := p.firsts[cell]
	switch {
	case cell == 0:
		p.reads--
	case !ok:
		p.t.Fatalf("ahead of counting a step has the cell %d be %d", cell, after.Words[cell])
	default:
		before = before.Word(cell, uint64(first))
		delete(p.firsts, cell)
	}
	if p.reads == 0 && len(p.firsts) == 0 {
		p.at = atCount
	}
	return before
}

// waitOn is a step of a wait, behind the last one of which chains are parted, if any is common.
func (p *plain) waitOn(before, after trial.Seen) (want trial.Seen, done bool) {
	want, over := p.wait.Step(before, after)
	if !over {
		return want, false
	}
	p.at, p.common = atPart, p.commonOf(before)
	if len(p.common) == 0 {
		p.at = atEnd
	} else {
		p.passes++
	}
	return want, len(p.common) == 0
}

// commonOf are the elder table's buckets of which a newer one's chain has a node that isn't its own.
func (p *plain) commonOf(s trial.Seen) map[int]bool {
	common := map[int]bool{}
	for bucket := range p.newer.N {
		if l := s.Chain(p.newer.Base + bucket); len(s.Own(l, bucket, p.newer.N)) < len(l) {
			common[bucket%p.elder.N] = true
		}
	}
	return common
}

// part is a step by which one node of a chain of this pass comes to have the next one of its own as its Next, or none. No one who goes along the other bucket's chain may come by it any more.
func (p *plain) part(before, after trial.Seen) trial.Seen {
	p.t.Helper()
	h := after.Changed(before)
	node, _ := before.Node(h)
	bucket, n := before.BucketOf(h, p.newer.N), p.elder.N
	if h == 0 || !p.common[bucket%n] {
		p.t.Fatalf("a step of the pass %d changes the node %d, of the bucket %d; these are to be parted yet: %v", p.passes, h, bucket, p.common)
	}
	other := (bucket + n) % p.newer.N
	if before.BucketOf(node.Next, p.newer.N) != other || slices.Contains(before.Chain(p.newer.Base+other), h) {
		p.t.Fatalf("a step of the pass %d changes the node %d, whose Next is %d, of the bucket %d", p.passes, h, node.Next, bucket)
	}
	next := trial.At(before.Own(before.ChainFrom(node.Next), bucket, p.newer.N), 0)
	delete(p.common, bucket%n)
	if len(p.common) == 0 {
		p.waitAnew()
	}
	return before.Linked(h, next)
}

// pair is a grow, and the plain one that tells what it has to do.
type pair struct {
	trial.Pair
	p *plain
}

// newPair is a pair that took no step.
func newPair(t *testing.T, worker int) *pair {
	t.Helper()
	p := &plain{t: t, worker: worker}
	x := &pair{trial.Pair{T: t, F: New(worker), P: p}, p}
	x.Tells("New")
	return x
}
