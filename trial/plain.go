package trial

import (
	"quietus/arena"
	"quietus/fnv"
	"quietus/mem"
)

// Where a plain seek is.
const (
	atLoad = iota
	atLock
	atAgain
	atFree
	atCell
	atNode
	atEnd
)

// PlainSeek is how those begin who change what a key has, told by the chapters' words: the key's bucket is held, and a walk goes to the key.
type PlainSeek struct {
	Worker int
	Key    string
	// Desc is the table whose bucket is held; the zero one, if no table has the number.
	Desc mem.Desc
	Lock int
	// First is what the cell had, and Prev the handle that was read last ahead of what was found.
	First, Prev arena.Handle
	// Found is what was found, and Node its node.
	Found arena.Handle
	Node  arena.Node

	at     int
	number uint64
	// ahead is the handle that it stands ahead of.
	ahead arena.Handle
}

// Over says whether it is done.
func (p *PlainSeek) Over() bool { return p.at == atEnd }

// Stale says whether its next step comes to a handle that can't be read.
func (p *PlainSeek) Stale(m *mem.Mem) bool { return p.at == atNode && !m.Arena.Live(p.ahead) }

// lockOf is the table of the number that was loaded, and the lock; the zero one, and the first lock, if there is no such table.
func (p *PlainSeek) lockOf(s Seen) (mem.Desc, int) {
	if p.number >= uint64(len(s.Tables)) {
		return mem.Desc{}, firstWriter
	}
	desc := s.Tables[p.number]
	return desc, LockOf(fnv.Sum(p.Key), desc.N)
}

// Ready says whether its next step can be taken.
func (p *PlainSeek) Ready(s Seen) bool {
	_, lock := p.lockOf(s)
	return p.at != atLock || s.Holders[lock] == -1
}

// Step is what its step has to come to, from a memory that is as it was ahead of that.
func (p *PlainSeek) Step(before Seen) Seen {
	switch p.at {
	case atLoad:
		p.number, p.at = before.Words[currentCell], atLock
	case atLock:
		p.Desc, p.Lock = p.lockOf(before)
		p.at = atAgain
		return before.Holder(p.Lock, p.Worker)
	case atAgain:
		p.at = atFree
		if before.Words[currentCell] == p.number {
			p.at = atCell
		}
	case atFree:
		p.at = atLoad
		return before.Holder(p.Lock, -1)
	case atCell:
		p.load(before)
	case atNode:
		before.Fault = !p.read(before) || before.Fault
	}
	return before
}

// load is the step that loads the bucket's cell, if there is one.
func (p *PlainSeek) load(before Seen) {
	if p.Desc.N > 0 {
		p.First = arena.Handle(before.Words[CellIn(p.Desc, p.Key)])
	}
	p.comeTo(p.First)
}

// read is a step that reads a node, and says whether that is live.
func (p *PlainSeek) read(before Seen) bool {
	node, live := before.Node(p.ahead)
	switch {
	case !live:
		p.at = atEnd
	case node.Key == p.Key && node.Sum == fnv.Sum(p.Key):
		p.Found, p.Node, p.at = p.ahead, node, atEnd
	default:
		p.Prev = p.ahead
		p.comeTo(node.Next)
	}
	return live
}

// comeTo has it stand ahead of a node, or at its end, if there is none.
func (p *PlainSeek) comeTo(h arena.Handle) {
	p.ahead, p.at = h, atNode
	if h == 0 {
		p.at = atEnd
	}
}

// Lead is a memory in which the chain goes on with a handle where what was found stood, or, if nothing was, from its cell on.
func (p *PlainSeek) Lead(s Seen, h arena.Handle) Seen {
	if p.Found != 0 && p.Prev != 0 {
		return s.Linked(p.Prev, h)
	}
	return s.Word(CellIn(p.Desc, p.Key), uint64(h))
}

// Plain is a frame told by its chapter's words: whether it has to be ready, what its step has to come to, from a memory that is as it was ahead of that, and whether the frame is done by it. Of what the step came to it looks at nothing but what the chapter leaves open.
type Plain interface {
	Ready(s Seen) bool
	Step(before, after Seen) (want Seen, done bool)
}

// StepAs has a frame take its step, by take, ready or not, and says whether it is done: it does what the plain one tells, and nothing else.
func StepAs(t T, m *mem.Mem, f mem.Frame, p Plain, take func() bool, what string) bool {
	t.Helper()
	before := Look(m)
	if ready := f.Ready(m); ready != p.Ready(before) {
		t.Fatalf("%s: Ready = %v", what, ready)
	}
	is := take()
	want, done := p.Step(before, Look(m))
	if is != done {
		t.Fatalf("%s: Step = %v", what, is)
	}
	want.Check(t, m, what)
	return done
}
