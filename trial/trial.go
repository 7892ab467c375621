// Package trial is what the layers' tests share: looks at a memory, and at where all its places are, tables and their buckets, chains that are laid, frames that are taken step by step, and held against the chapters' words, what others may do beside them, and all ways in which threads' steps can be mixed, or all states that they come to. The layers themselves don't use it.
package trial

import (
	"cmp"
	"math"
	"math/bits"
	"slices"

	"quietus/arena"
	"quietus/mem"
)

// These are written out, so that tests don't lean on the names that they hold.
const (
	mostWorkers  = 8
	writers      = 4
	periodCell   = 0
	currentCell  = 1
	firstCounter = 2
	periodLock   = 0
	firstWriter  = 1
	resizeLock   = 5
)

const (
	// generations is how many generations of each place are looked at, at most.
	generations = 4096
	// far is how far apart the handles of one place are, from one generation to the next.
	far = 65536
	// most is more steps than any frame of the tests has to take.
	most = 100000
	// somebody is the number of one who has locks, and is no worker.
	somebody = 1000
)

// T is who is told of faults: a *testing.T.
type T interface {
	Helper()
	Fatalf(format string, args ...any)
}

// Place is a node that is live.
type Place struct {
	Handle arena.Handle
	Node   arena.Node
}

// Seen is what is to be seen of a memory.
type Seen struct {
	Words   []uint64
	Holders []int
	Tables  []mem.Desc
	Places  []Place
	Waiting []arena.Handle
	Workers int
	Free    int
	Fault   bool
}

// Look looks at a memory, which stays as it is.
func Look(m *mem.Mem) Seen {
	s := Seen{Places: places(m.Arena), Waiting: waiting(m), Workers: m.Workers(), Free: m.Arena.Spare(), Fault: m.Arena.Fault()}
	for i := range m.Cells.Len() {
		word, _ := m.Cells.Load(i)
		s.Words = append(s.Words, word)
	}
	for i := range m.Locks.Len() {
		s.Holders = append(s.Holders, m.Locks.Holder(i))
	}
	for desc, ok := m.Desc(0); ok; desc, ok = m.Desc(len(s.Tables)) {
		s.Tables = append(s.Tables, desc)
	}
	return s
}

// places are the nodes that are live, by their places. There is no way to ask for the generation of one, so they are looked for generation by generation, till there are as many as have to be.
func places(a *arena.Arena) []Place {
	var l []Place
	for generation := 0; generation < generations && len(l) < a.Room()-a.Spare(); generation++ {
		for place := range a.Room() {
			h := arena.Handle(place + 1 + far*generation)
			if a.Live(h) {
				node, _ := a.Read(h)
				l = append(l, Place{Handle: h, Node: node})
			}
		}
	}
	slices.SortFunc(l, func(p, q Place) int { return cmp.Compare(placeOf(p.Handle), placeOf(q.Handle)) })
	return l
}

// placeOf is the place of a handle.
func placeOf(h arena.Handle) arena.Handle { return (h - 1) % far }

// waiting are those that wait: there is no other way to look at them than to take them, and to have them wait again.
func waiting(m *mem.Mem) []arena.Handle {
	l := slices.Clone(m.Take())
	for _, h := range l {
		m.Retire(h)
	}
	return l
}

// Word is a memory of which a cell is another word.
func (s Seen) Word(cell int, word uint64) Seen {
	s.Words = slices.Clone(s.Words)
	s.Words[cell] = word
	return s
}

// Period is a memory of which the period is another one.
func (s Seen) Period(word uint64) Seen { return s.Word(periodCell, word) }

// Counter is a memory of which a worker's counter is another one.
func (s Seen) Counter(worker int, word uint64) Seen { return s.Word(firstCounter+worker, word) }

// Holder is a memory of which a lock is held by another one; it is free, if that is -1.
func (s Seen) Holder(lock, who int) Seen {
	s.Holders = slices.Clone(s.Holders)
	s.Holders[lock] = who
	return s
}

// Wait is a memory in which these wait.
func (s Seen) Wait(l ...arena.Handle) Seen {
	s.Waiting = slices.Clone(l)
	return s
}

// find is where a handle's node stands; -1, if that isn't live.
func (s Seen) find(h arena.Handle) int {
	return slices.IndexFunc(s.Places, func(p Place) bool { return p.Handle == h })
}

// Taken is a memory in which a place that was free has this node, by this handle.
func (s Seen) Taken(h arena.Handle, n arena.Node) Seen {
	i, _ := slices.BinarySearchFunc(s.Places, h, func(p Place, h arena.Handle) int { return cmp.Compare(placeOf(p.Handle), placeOf(h)) })
	s.Places = slices.Insert(slices.Clone(s.Places), i, Place{Handle: h, Node: n})
	s.Free--
	return s
}

// Linked is a memory in which a handle's node has another Next; its flag is up, if that wasn't live.
func (s Seen) Linked(h, next arena.Handle) Seen {
	i := s.find(h)
	if i < 0 {
		s.Fault = true
		return s
	}
	s.Places = slices.Clone(s.Places)
	s.Places[i].Node.Next = next
	return s
}

// Freed is a memory in which a handle was freed; its flag is up, if that wasn't live.
func (s Seen) Freed(h arena.Handle) Seen {
	i := s.find(h)
	if i < 0 {
		s.Fault = true
		return s
	}
	s.Places = slices.Delete(slices.Clone(s.Places), i, i+1)
	s.Free++
	return s
}

// Node is the node of a handle, and whether that is live.
func (s Seen) Node(h arena.Handle) (arena.Node, bool) {
	i := s.find(h)
	if i < 0 {
		return arena.Node{}, false
	}
	return s.Places[i].Node, true
}

// Came are the handles of the nodes that are live, and weren't ahead of that.
func (s Seen) Came(before Seen) []arena.Handle {
	return slices.DeleteFunc(s.Live(), func(h arena.Handle) bool { return before.find(h) >= 0 })
}

// Live are the handles of the nodes that are live.
func (s Seen) Live() []arena.Handle {
	var l []arena.Handle
	for _, p := range s.Places {
		l = append(l, p.Handle)
	}
	return l
}

// same says whether two memories look the same.
func (s Seen) same(o Seen) bool {
	return slices.Equal(s.Words, o.Words) && slices.Equal(s.Holders, o.Holders) && slices.Equal(s.Tables, o.Tables) &&
		slices.Equal(s.Places, o.Places) && slices.Equal(s.Waiting, o.Waiting) &&
		s.Workers == o.Workers && s.Free == o.Free && s.Fault == o.Fault
}

// Check has a memory be as it has to be.
func (s Seen) Check(t T, m *mem.Mem, what string) {
	t.Helper()
	if is := Look(m); !is.same(s) {
		t.Fatalf("%s: the memory is %v, not %v", what, is, s)
	}
}

// Step has a frame take a step for which it has to be ready, and by which it has to be done, or not.
func Step(t T, m *mem.Mem, f mem.Frame, done bool, what string) {
	t.Helper()
	for range 2 {
		if !f.Ready(m) {
			t.Fatalf("%s: it isn't ready", what)
		}
	}
	if is := f.Step(m); is != done {
		t.Fatalf("%s: Step = %v", what, is)
	}
}

// Ahead has a frame take so many steps for which it has to be ready, and by which it mustn't be done.
func Ahead(t T, m *mem.Mem, f mem.Frame, steps int, what string) {
	t.Helper()
	for range steps {
		Step(t, m, f, false, what)
	}
}

// Stuck has a frame take steps for which it mustn't be ready: nothing comes of them.
func Stuck(t T, m *mem.Mem, f mem.Frame, what string) {
	t.Helper()
	before := Look(m)
	for range 3 {
		if f.Ready(m) {
			t.Fatalf("%s: it is ready", what)
		}
		if f.Step(m) {
			t.Fatalf("%s: it is done", what)
		}
		before.Check(t, m, what)
	}
}

// Finish has a frame take all its steps, which have to be so many.
func Finish(t T, m *mem.Mem, f mem.Frame, steps int, what string) {
	t.Helper()
	if n, done := mem.Finish(m, f, most); n != steps || !done {
		t.Fatalf("%s: Finish = %d, %v, not %d", what, n, done, steps)
	}
}

// Words are words of all kinds, 0 and the greatest one among them, and such whose low bits alone are 0.
func Words() []uint64 {
	return []uint64{
		0, 1, 2, 3, 4, 5, 65535, 65536, 1<<31 - 1, 1 << 31, 1<<32 - 1, 1 << 32, 1<<32 + 1, 1<<32 + 2,
		1<<63 - 1, 1 << 63, 1<<63 + 1, math.MaxUint64 - 2, math.MaxUint64 - 1, math.MaxUint64,
	}
}

// NotWorkers are numbers of workers that no memory has.
func NotWorkers() []int {
	l := []int{
		-1, -2, -3, -4, -65536, math.MinInt32, math.MinInt, math.MinInt + 1, math.MinInt + 2,
		mostWorkers, mostWorkers + 1, 64, 65536, 1 << 20, math.MaxInt32, math.MaxInt, math.MaxInt - 1, math.MaxInt - 2,
	}
	if bits.UintSize == 64 {
		high := 1 << (bits.UintSize / 2)
		l = append(l, high, high+1, -high, 1-high)
	}
	return l
}

// Picker answers numbers below n, in a row that is the same each time.
func Picker(seed uint32) func(n int) int {
	pick := seed
	return func(n int) int {
		pick = pick*1664525 + 1013904223
		return int(pick>>8) % n
	}
}

// In are the workers that are in.
func In(m *mem.Mem) []int {
	var l []int
	for worker := range m.Workers() {
		if counter, _ := m.Cells.Load(firstCounter + worker); counter != 0 {
			l = append(l, worker)
		}
	}
	return l
}

// Thread does frames, one after the other, each of which is made when its turn comes. It is the worker of this number, if that matters.
type Thread struct {
	Worker int
	Makers []func() mem.Frame
	now    mem.Frame
}

// Left says whether a frame is on its way, or left.
func (x *Thread) Left() bool { return x.now != nil || len(x.Makers) > 0 }

// Next is the frame of its next step.
func (x *Thread) Next() mem.Frame {
	if x.now == nil {
		x.now, x.Makers = x.Makers[0](), x.Makers[1:]
	}
	return x.now
}

// Step has its frame take its step: which frame, and whether it is done.
func (x *Thread) Step(m *mem.Mem) (mem.Frame, bool) {
	f := x.Next()
	done := f.Step(m)
	if done {
		x.now = nil
	}
	return f, done
}

// Ready are the threads that are ready.
func Ready(m *mem.Mem, threads []*Thread) []int {
	var l []int
	for i, x := range threads {
		if x.Left() && x.Next().Ready(m) {
			l = append(l, i)
		}
	}
	return l
}

// Act is a step of somebody else, no layer's: whether it can be taken, which it always can, if that is nil, and what it does.
type Act struct {
	Ready func(m *mem.Mem) bool
	Do    func(m *mem.Mem)
}

// Acts are a frame of such steps, of those that are left.
type Acts struct{ Left []Act }

// Ready says whether the next one can be taken.
func (a *Acts) Ready(m *mem.Mem) bool { return a.Left[0].Ready == nil || a.Left[0].Ready(m) }

// Step takes the next one.
func (a *Acts) Step(m *mem.Mem) bool {
	a.Left[0].Do(m)
	a.Left = a.Left[1:]
	return len(a.Left) == 0
}

// MakeActs is a maker of a frame of these steps.
func MakeActs(l ...Act) func() mem.Frame {
	return func() mem.Frame { return &Acts{Left: l} }
}

// World is threads that go step by step: which ones are ready, a step of one of them, and what has to hold as none is ready.
type World interface {
	Ready() []int
	Step(thread int)
	End()
}

// Explore goes through all ways in which the steps of a world's threads can be mixed, and says how many there are. A world goes on where it is; for each other choice one that is fresh takes the steps that there were.
func Explore(fresh func() World) int { return explore(fresh, nil) }

// explore goes through all ways that begin by these picks.
func explore(fresh func() World, picks []int) int {
	w := fresh()
	follow(w, picks)
	ends := 1
	for ready := w.Ready(); len(ready) > 0; ready = w.Ready() {
		for _, other := range ready[1:] {
			ends += explore(fresh, append(slices.Clone(picks), other))
		}
		w.Step(ready[0])
		picks = append(slices.Clone(picks), ready[0])
	}
	w.End()
	return ends
}

// follow has a world's threads take the steps of these picks.
func follow(w World, picks []int) {
	for _, pick := range picks {
		w.Ready()
		w.Step(pick)
	}
}

// Stated is a world that tells its state: all by which hangs what may come.
type Stated interface {
	World
	State() string
}

// ExploreStates goes through all states to which a world's threads can come, however their steps are mixed, and says how many there are. It is of worlds that have too many ways: where two of them come to one state, what comes behind it is gone through once.
func ExploreStates(fresh func() Stated) int {
	met := map[string]bool{}
	exploreStates(fresh, nil, met)
	return len(met)
}

// exploreStates goes through all states that weren't met, of ways that begin by these picks.
func exploreStates(fresh func() Stated, picks []int, met map[string]bool) {
	w := fresh()
	follow(w, picks)
	for state := w.State(); !met[state]; state = w.State() {
		met[state] = true
		ready := w.Ready()
		if len(ready) == 0 {
			w.End()
			return
		}
		for _, other := range ready[1:] {
			exploreStates(fresh, append(slices.Clone(picks), other), met)
		}
		w.Step(ready[0])
		picks = append(slices.Clone(picks), ready[0])
	}
}

// Run has a world's threads take their steps by the picks of a picker, till none is ready.
func Run(w World, next func(n int) int) {
	for ready := w.Ready(); len(ready) > 0; ready = w.Ready() {
		w.Step(ready[next(len(ready))])
	}
	w.End()
}
