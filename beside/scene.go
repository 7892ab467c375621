package beside

import (
	"slices"
	"strconv"

	"quietus/arena"
	"quietus/get"
	"quietus/mem"
	"quietus/retire"
	"quietus/trial"
)

// These are written out, so that tests don't lean on the names that they hold.
const (
	periodCell   = 0
	currentCell  = 1
	firstCounter = 2
	periodLock   = 0
)

// fewest is how few states there may be of a scene: of less its threads weren't beside each other.
const fewest = 50

// Change is one who has tables count, one after the other, of these numbers of buckets. What its steps do hangs by nothing but how many it took, and which periods it made.
type Change struct {
	Make func(worker int) mem.Frame
	Path []int
}

// Scene is a table of such keys, bucket by bucket, and what goes on: what the worker 0 does, what each other worker gets, and whether there is one who frees what waits.
type Scene struct {
	Keys    [][]string
	Changes []Change
	// Locks says whether the changes take the locks that they have to hold, and free them; else the worker 0 has them from the beginning on.
	Locks  bool
	Gets   [][]Asked
	Drains bool
}

// looker is a get that is on its way, and by what it hangs what its steps that are left do.
type looker struct {
	g *get.Get
	Asked
	took int
	// word is what its last step that read something came to: the period, the table's number, or the handle that it stands ahead of.
	word uint64
}

// look is what its step that comes next reads.
func (x *looker) look(m *mem.Mem) {
	switch x.took {
	case 0:
		x.word, _ = m.Cells.Load(periodCell)
	case 1:
	case 2:
		x.word, _ = m.Cells.Load(currentCell)
	case 3:
		desc, _ := m.Desc(int(x.word))
		x.word, _ = m.Cells.Load(trial.CellIn(desc, x.Key))
	default:
		if h := arena.Handle(x.word); m.Arena.Live(h) {
			node, _ := m.Arena.Read(h)
			x.word = uint64(node.Next)
		}
	}
	x.took++
}

// strand is one of a world's threads, how many steps it took, the period that it made last, and the get that is on its way, if there is one.
type strand struct {
	trial.Thread
	took   int
	period uint64
	look   *looker
}

// world is the threads of a scene on one memory.
type world struct {
	t       trial.T
	m       *mem.Mem
	strands []*strand
	// want are the keys of the table that there has to be at the end, and holder who has to have the locks then.
	want   [][]string
	holder int
}

// newWorld is a world of a scene.
func newWorld(t trial.T, s Scene) *world {
	t.Helper()
	w := &world{t: t, want: s.Keys, holder: -1}
	w.m, _ = mem.New(w.nodes()+1, 1+len(s.Gets))
	if s.Drains {
		w.m.Retire(trial.Alloc(t, w.m, arena.Node{Key: "waits"}))
	}
	if !s.Locks {
		trial.HoldAll(w.m, 0)
		w.holder = 0
	}
	trial.LayTable(t, w.m, s.Keys)
	var makers []func() mem.Frame
	for _, c := range s.Changes {
		makers = append(makers, func() mem.Frame { return c.Make(0) })
		for _, n := range c.Path {
			w.want = trial.Spread(w.want, n)
		}
	}
	w.strand(makers...)
	for i, l := range s.Gets {
		w.gets(1+i, l)
	}
	if s.Drains {
		w.strand(func() mem.Frame { return retire.New(1 + len(s.Gets)) })
	}
	return w
}

// nodes is how many there are.
func (w *world) nodes() int { return len(slices.Concat(w.want...)) }

// strand has a thread more.
func (w *world) strand(makers ...func() mem.Frame) *strand {
	s := &strand{Thread: trial.Thread{Makers: makers}}
	w.strands = append(w.strands, s)
	return s
}

// gets has a worker more that gets these.
func (w *world) gets(worker int, l []Asked) {
	s := w.strand()
	for _, a := range l {
		s.Makers = append(s.Makers, func() mem.Frame {
			s.look = &looker{g: get.New(worker, a.Key), Asked: a}
			return s.look.g
		})
	}
}

// Ready are the threads that are ready.
func (w *world) Ready() []int {
	var l []int
	for i, s := range w.strands {
		if s.Left() && s.Next().Ready(w.m) {
			l = append(l, i)
		}
	}
	return l
}

// Step has a thread take its step, and looks at gets that are done by it.
func (w *world) Step(i int) {
	w.t.Helper()
	s := w.strands[i]
	s.Next()
	if s.look != nil {
		s.look.look(w.m)
	}
	period, _ := w.m.Cells.Load(periodCell)
	_, done := s.Step(w.m)
	s.took++
	if now, _ := w.m.Cells.Load(periodCell); now != period {
		s.period = now
	}
	if w.m.Arena.Fault() {
		w.t.Fatalf("a handle that was stale was used")
	}
	if done && s.look != nil {
		w.found(s.look)
		s.look = nil
	}
}

// found says whether a get that is done found what it has to, in as many steps as it may take.
func (w *world) found(x *looker) {
	w.t.Helper()
	Found(w.t, w.m, x.g, x.Asked, "beside a change")
	if x.took > 5+w.nodes() {
		w.t.Fatalf("a get of %q took %d steps", x.Key, x.took)
	}
}

// State is all by which it hangs what may come.
func (w *world) State() string {
	var l []byte
	tell := func(words ...uint64) {
		for _, word := range words {
			l = append(strconv.AppendUint(l, word, 10), ' ')
		}
	}
	for _, s := range w.strands {
		tell(uint64(s.took), s.period)
		if s.look != nil {
			tell(uint64(s.look.took), s.look.word)
		}
	}
	for cell := range firstCounter + w.m.Workers() {
		word, _ := w.m.Cells.Load(cell)
		tell(word)
	}
	tell(uint64(1 + w.m.Locks.Holder(periodLock)))
	return string(l)
}

// End says whether all threads are done, nothing waits, and the table is what it has to be.
func (w *world) End() {
	w.t.Helper()
	for i, s := range w.strands {
		if s.Left() {
			w.t.Fatalf("nobody is ready, thread %d isn't done", i)
		}
	}
	trial.CheckTable(w.t, w.m, w.want)
	if holder := w.m.Locks.Holder(periodLock); w.m.Waiting() != 0 || holder != -1 {
		w.t.Fatalf("%d wait, the period's lock has %d", w.m.Waiting(), holder)
	}
	for lock := firstWriter; lock <= resizeLock; lock++ {
		if holder := w.m.Locks.Holder(lock); holder != w.holder {
			w.t.Fatalf("the lock %d has %d, not %d", lock, holder, w.holder)
		}
	}
}

// EachWay goes through all states to which a scene's threads can come, however their steps are mixed: each get finds what there is, in as many steps as it may take, no handle that is stale is used, and somebody is ready till all are done.
func EachWay(t trial.T, s Scene) {
	t.Helper()
	if n := trial.ExploreStates(func() trial.Stated { return newWorld(t, s) }); n < fewest {
		t.Fatalf("of %v there are %d states", s.Keys, n)
	}
}
