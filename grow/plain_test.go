package grow

import (
	"fmt"
	"slices"
	"testing"

	"quietus/api"
	"quietus/arena"
	"quietus/mem"
	"quietus/trial"
)

// These are written out, so that the tests don't lean on the names that they hold.
const (
	mostWorkers  = 8
	mostNodes    = 1024
	mostBuckets  = 65536
	mostCells    = 1048576
	periodCell   = 0
	currentCell  = 1
	firstCounter = 2
	periodLock   = 0
	firstWriter  = 1
	resizeLock   = 5
	// far is how far apart the handles of one place are, from one generation to the next.
	far = 65536
	// somebody is the number of one who has locks, and is no worker.
	somebody = 1000
	// most is more steps than any grow of the tests has to take.
	most = 1000000
)

// A grow is a frame.
var _ mem.Frame = (*Grow)(nil)

// Where a plain grow is.
const (
	atLoad = iota
	atTable
	atChains
	atCount
	atTake
	atRaise
	atLook
	atFree
	atPart
	atEnd
)

// plain is a grow told by its chapter's words. In which order chains are looked through, first nodes stored, and chains parted the chapter leaves open.
type plain struct {
	t      *testing.T
	worker int
	at     int
	// number is of the table that comes to count.
	number       int
	elder, newer mem.Desc
	// reads is how many cells and nodes are yet to be read, and firsts are by their cells which first nodes are yet to be stored.
	reads  int
	firsts map[int]arena.Handle
	// period is that of the wait, and passed are the workers that it doesn't wait for any more.
	period uint64
	passed int
	// common are the elder table's buckets whose chains are yet to be parted in this pass.
	common map[int]bool
	// passes is how many passes there were.
	passes int
}

// follow are the handles of a cell's chain, up to the first one that is 0, not live, or was met already.
func follow(s trial.Seen, cell int) []arena.Handle { return followFrom(s, arena.Handle(s.Words[cell])) }

// followFrom are the same, from a handle on.
func followFrom(s trial.Seen, h arena.Handle) []arena.Handle {
	var l []arena.Handle
	for node, live := s.Node(h); live && !slices.Contains(l, h); node, live = s.Node(h) {
		l = append(l, h)
		h = node.Next
	}
	return l
}

// bucketIn is the bucket of n in which a handle's node is, that is live.
func bucketIn(s trial.Seen, h arena.Handle, n int) int {
	node, _ := s.Node(h)
	return int(node.Sum % uint32(n))
}

// of are those of a row of handles that are of a bucket of n.
func of(s trial.Seen, l []arena.Handle, bucket, n int) []arena.Handle {
	return slices.DeleteFunc(slices.Clone(l), func(h arena.Handle) bool { return bucketIn(s, h, n) != bucket })
}

// Ready says whether its next step can be taken.
func (p *plain) Ready(s trial.Seen) bool {
	switch p.at {
	case atTake:
		return s.Holders[periodLock] == -1
	case atLook:
		counter := s.Words[firstCounter+p.passed]
		return counter == 0 || counter >= p.period
	}
	return true
}

// Step is what the grow's step has to come to, and whether the grow is done by it.
func (p *plain) Step(before, after trial.Seen) (want trial.Seen, done bool) {
	p.t.Helper()
	if !p.Ready(before) {
		return before, false
	}
	switch p.at {
	case atLoad:
		p.elder, p.at = before.Tables[before.Words[currentCell]], atTable
	case atTable:
		return p.table(before), false
	case atChains:
		return p.chains(before, after), false
	case atCount:
		p.at = atTake
		return before.Word(currentCell, uint64(p.number)), false
	case atPart:
		return p.part(before, after), false
	default:
		return p.wait(before)
	}
	return before, false
}

// table is the step that makes a table, and has what is to be done by it be told.
func (p *plain) table(before trial.Seen) trial.Seen {
	p.newer, p.number = mem.Desc{N: 2 * p.elder.N, Base: len(before.Words)}, len(before.Tables)
	before.Words = append(slices.Clone(before.Words), make([]uint64, p.newer.N)...)
	before.Tables = append(slices.Clone(before.Tables), p.newer)
	p.at, p.firsts = atChains, map[int]arena.Handle{}
	for bucket := range p.elder.N {
		l := follow(before, p.elder.Base+bucket)
		p.reads += 1 + len(l)
		for _, half := range []int{bucket, bucket + p.elder.N} {
			if own := of(before, l, half, p.newer.N); len(own) > 0 {
				p.firsts[p.newer.Base+half] = own[0]
			}
		}
	}
	return before
}

// chains is a step by which a cell or a node is read, or a first node comes into its cell, which is one by which a word is changed.
func (p *plain) chains(before, after trial.Seen) trial.Seen {
	p.t.Helper()
	cell := 0
	for i := range min(len(before.Words), len(after.Words)) {
		if before.Words[i] != after.Words[i] {
			cell = i
		}
	}
	first, ok := p.firsts[cell]
	switch {
	case cell == 0:
		p.reads--
	case !ok:
		p.t.Fatalf("ahead of counting a step has the cell %d be %d", cell, after.Words[cell])
	default:
		before = before.Word(cell, uint64(first))
		delete(p.firsts, cell)
	}
	if p.reads == 0 && len(p.firsts) == 0 {
		p.at = atCount
	}
	return before
}

// wait is a step of a wait, behind the last one of which chains are parted, if any is common.
func (p *plain) wait(before trial.Seen) (want trial.Seen, done bool) {
	switch p.at {
	case atTake:
		p.at = atRaise
		return before.Holder(periodLock, p.worker), false
	case atRaise:
		p.period, p.passed, p.at = before.Words[periodCell]+1, 0, atLook
		return before.Period(p.period), false
	case atLook:
		if p.passed++; p.passed == before.Workers {
			p.at = atFree
		}
		return before, false
	}
	p.at, p.common = atPart, p.commonOf(before)
	if len(p.common) == 0 {
		p.at = atEnd
	} else {
		p.passes++
	}
	return before.Holder(periodLock, -1), len(p.common) == 0
}

// commonOf are the elder table's buckets of which a newer one's chain has a node that isn't its own.
func (p *plain) commonOf(s trial.Seen) map[int]bool {
	common := map[int]bool{}
	for bucket := range p.newer.N {
		if l := follow(s, p.newer.Base+bucket); len(of(s, l, bucket, p.newer.N)) < len(l) {
			common[bucket%p.elder.N] = true
		}
	}
	return common
}

// part is a step by which one node of a chain of this pass comes to have the next one of its own as its Next, or none. No one who goes along the other bucket's chain may come by it any more.
func (p *plain) part(before, after trial.Seen) trial.Seen {
	p.t.Helper()
	h := changed(before, after)
	node, _ := before.Node(h)
	bucket, n := bucketIn(before, h, p.newer.N), p.elder.N
	if h == 0 || !p.common[bucket%n] {
		p.t.Fatalf("a step of the pass %d changes the node %d, of the bucket %d; these are to be parted yet: %v", p.passes, h, bucket, p.common)
	}
	other := (bucket + n) % p.newer.N
	if bucketIn(before, node.Next, p.newer.N) != other || slices.Contains(follow(before, p.newer.Base+other), h) {
		p.t.Fatalf("a step of the pass %d changes the node %d, whose Next is %d, of the bucket %d", p.passes, h, node.Next, bucket)
	}
	next := trial.At(of(before, followFrom(before, node.Next), bucket, p.newer.N), 0)
	delete(p.common, bucket%n)
	if len(p.common) == 0 {
		p.at = atTake
	}
	return before.Linked(h, next)
}

// changed is the handle of the one node whose Next is changed; 0, if there isn't one alone.
func changed(before, after trial.Seen) arena.Handle {
	var l []arena.Handle
	for _, place := range before.Places {
		if node, live := after.Node(place.Handle); !live || node != place.Node {
			l = append(l, place.Handle)
		}
	}
	if len(l) != 1 {
		return 0
	}
	return l[0]
}

// pair is a grow, and the plain one that tells what it has to do.
type pair struct {
	t *testing.T
	g *Grow
	p *plain
}

// newPair is a pair that took no step.
func newPair(t *testing.T, worker int) *pair {
	t.Helper()
	x := &pair{t, New(worker), &plain{t: t, worker: worker}}
	x.told("New")
	return x
}

// told says whether the grow tells that all is well.
func (x *pair) told(what string) {
	x.t.Helper()
	for range 2 {
		if e := x.g.Err(); e != api.OK {
			x.t.Fatalf("%s: Err = %v", what, e)
		}
	}
}

// step has a grow take its step, ready or not, and says whether it is done: it does what the plain one tells, and nothing else.
func (x *pair) step(m *mem.Mem) bool {
	x.t.Helper()
	done := trial.StepAs(x.t, m, x.g, x.p, func() bool { return x.g.Step(m) }, fmt.Sprintf("a step of a grow at %d", x.p.at))
	x.told("a step")
	return done
}

// finish has a grow take all its steps that are left, for each of which it has to be ready, and says how many there were.
func (x *pair) finish(m *mem.Mem) int {
	x.t.Helper()
	for n := 1; ; n++ {
		if !x.g.Ready(m) {
			x.t.Fatalf("at %d it isn't ready", x.p.at)
		}
		if x.step(m) {
			return n
		}
	}
}
