package grow

import (
	"fmt"
	"strings"
	"testing"

	"quietus/api"
	"quietus/arena"
	"quietus/crowd"
	"quietus/del"
	"quietus/get"
	"quietus/mem"
	"quietus/put"
	"quietus/retire"
	"quietus/trial"
)

// looker is a get that is on its way, and by what it hangs what its steps that are left do.
type looker struct {
	g *get.Get
	asked
	took int
	// word is what its last step that read something came to: the period, the table's number, or the handle that it stands ahead of.
	word uint64
}

// look is what its step that comes next reads.
func (x *looker) look(m *mem.Mem) {
	switch x.took {
	case 0:
		x.word, _ = m.Cells.Load(periodCell)
	case 1:
	case 2:
		x.word, _ = m.Cells.Load(currentCell)
	case 3:
		desc, _ := m.Desc(int(x.word))
		x.word, _ = m.Cells.Load(trial.CellIn(desc, x.key))
	default:
		if m.Arena.Live(arena.Handle(x.word)) {
			node, _ := m.Arena.Read(arena.Handle(x.word))
			x.word = uint64(node.Next)
		}
	}
	x.took++
}

// strand is one of a world's threads, how many steps it took, and the period that it made last.
type strand struct {
	trial.Thread
	took   int
	period uint64
	look   *looker
}

// world is threads on one memory of which all locks are held that one who grows has to hold: who grows, so many times, workers that get, and one who frees.
type world struct {
	t       *testing.T
	m       *mem.Mem
	strands []*strand
	// nodes is how many there are, and n how many buckets there have to be at the end.
	nodes, n int
}

// plan is what a world has: the rows of its table, how many times it grows, what each worker gets, and whether there is one who frees.
type plan struct {
	rows   []string
	times  int
	gets   [][]asked
	drains bool
}

// newWorld is a world of a plan, whose worker 0 grows.
func newWorld(t *testing.T, p plan) *world {
	t.Helper()
	w := &world{t: t, nodes: len(strings.Join(p.rows, "")), n: len(p.rows) << p.times}
	w.m, _ = mem.New(w.nodes+1, 1+len(p.gets))
	if p.drains {
		w.m.Retire(trial.Alloc(t, w.m, arena.Node{Key: "waits"}))
	}
	hold(w.m, 0)
	lay(t, w.m, p.rows...)
	grower := &strand{}
	for range p.times {
		grower.Makers = append(grower.Makers, func() mem.Frame { return New(0) })
	}
	w.strands = append(w.strands, grower)
	for i, gets := range p.gets {
		w.gets(1+i, gets)
	}
	if p.drains {
		w.strands = append(w.strands, &strand{Thread: trial.Thread{Makers: []func() mem.Frame{func() mem.Frame { return retire.New(1 + len(p.gets)) }}}})
	}
	return w
}

// gets has a worker more that gets these.
func (w *world) gets(worker int, l []asked) {
	s := &strand{}
	for _, a := range l {
		s.Makers = append(s.Makers, func() mem.Frame {
			s.look = &looker{g: get.New(worker, a.key), asked: a}
			return s.look.g
		})
	}
	w.strands = append(w.strands, s)
}

// Ready are the threads that are ready.
func (w *world) Ready() []int {
	var l []int
	for i, s := range w.strands {
		if s.Left() && s.Next().Ready(w.m) {
			l = append(l, i)
		}
	}
	return l
}

// Step has a thread take its step, and looks at P13.3.
func (w *world) Step(i int) {
	w.t.Helper()
	s := w.strands[i]
	s.Next()
	if s.look != nil {
		s.look.look(w.m)
	}
	period, _ := w.m.Cells.Load(periodCell)
	_, done := s.Step(w.m)
	s.took++
	if now, _ := w.m.Cells.Load(periodCell); now != period {
		s.period = now
	}
	if w.m.Arena.Fault() {
		w.t.Fatal("a stale handle was used")
	}
	if !done || s.look == nil {
		return
	}
	found(w.t, w.m, s.look.g, s.look.asked, "beside a grow")
	if s.look.took > 5+w.nodes {
		w.t.Fatalf("a get of %q took %d steps", s.look.key, s.look.took)
	}
	s.look = nil
}

// State is all by which it hangs what may come: what a grow or a drain does hangs by how many steps were taken, and the period that was made; what a get does by where it is.
func (w *world) State() string {
	var l []any
	for _, s := range w.strands {
		l = append(l, s.took, s.period)
		if s.look != nil {
			l = append(l, s.look.took, s.look.word)
		}
	}
	for cell := range firstCounter + w.m.Workers() {
		word, _ := w.m.Cells.Load(cell)
		l = append(l, word)
	}
	return fmt.Sprintln(append(l, w.m.Locks.Holder(periodLock))...)
}

// End says whether all threads are done, and what there has to be behind that.
func (w *world) End() {
	w.t.Helper()
	for i, s := range w.strands {
		if s.Left() {
			w.t.Fatalf("nobody is ready, thread %d isn't done", i)
		}
	}
	s := trial.Look(w.m)
	for bucket := range w.n {
		if l := w.m.Chain(bucket); w.m.Now().N != w.n || len(of(s, l, bucket, w.n)) != len(l) {
			w.t.Fatalf("the table is %v, its chain %d is %v", w.m.Now(), bucket, l)
		}
	}
	if len(w.m.Reach()) != w.nodes || w.m.Waiting() != 0 || s.Holders[periodLock] != -1 {
		w.t.Fatalf("%d are reached, %d wait, the period's lock has %d", len(w.m.Reach()), w.m.Waiting(), s.Holders[periodLock])
	}
}

// eachWay goes through all ways in which the steps of a plan's threads can be mixed, of which there have to be states enough.
func eachWay(t *testing.T, p plan) {
	t.Helper()
	if states := trial.ExploreStates(func() trial.Stated { return newWorld(t, p) }); states < 50 {
		t.Fatalf("of %v there are %d states", p, states)
	}
}

// P13.3: however the steps of a grow, and of a get, of whichever key, by another worker, are mixed, of whichever chain: the get finds what there is, in as many steps as it may take; no handle that is stale is used; somebody is ready till both are done.
func TestAllWaysOfOne(t *testing.T) {
	eachRow(5, func(row string) {
		for _, a := range allAsked(row) {
			eachWay(t, plan{rows: []string{row}, times: 1, gets: [][]asked{{a}}})
		}
	})
}

// P13.3: the same of gets that follow each other, of two workers, of two chains, of a grow behind the other one, and of one who frees.
func TestAllWaysOfMany(t *testing.T) {
	for _, row := range []string{"10", "0110"} {
		all := allAsked(row)
		for i, a := range all {
			b := all[(i+1)%len(all)]
			eachWay(t, plan{rows: []string{row}, times: 1, gets: [][]asked{{a, b}}})
			eachWay(t, plan{rows: []string{row}, times: 1, gets: [][]asked{{a}, {b}}})
			eachWay(t, plan{rows: []string{row}, times: 1, gets: [][]asked{{a}}, drains: true})
		}
	}
	for _, rows := range [][]string{{"0101", "10"}, {"1", "011"}, {"010", "101"}} {
		for _, a := range allAsked(rows...) {
			eachWay(t, plan{rows: rows, times: 1, gets: [][]asked{{a}}})
			eachWay(t, plan{rows: rows, times: 2, gets: [][]asked{{a, a}}})
		}
	}
}

// inTurn is a frame of frames, one after the other, of those that are left.
type inTurn struct{ left []mem.Frame }

// Ready says whether the one whose turn it is is ready.
func (f *inTurn) Ready(m *mem.Mem) bool { return f.left[0].Ready(m) }

// Step takes a step of the one whose turn it is.
func (f *inTurn) Step(m *mem.Mem) bool {
	if f.left[0].Step(m) {
		f.left = f.left[1:]
	}
	return len(f.left) == 0
}

// makeGrow makes a grow, by which no key comes to have anything else: the worker takes all locks that it has to hold, ahead of it, and frees them behind it.
func makeGrow(t *testing.T, worker int) *crowd.Call {
	var take, free []trial.Act
	for lock := firstWriter; lock <= resizeLock; lock++ {
		may := func(m *mem.Mem) bool { return m.Locks.Holder(lock) == -1 }
		take = append(take, trial.Act{Ready: may, Do: func(m *mem.Mem) { m.Locks.Try(lock, worker) }})
		free = append(free, trial.Act{Do: func(m *mem.Mem) { m.Locks.Free(lock, worker) }})
	}
	g := New(worker)
	told := func() {
		if e := g.Err(); e != api.OK {
			t.Fatalf("Err = %v", e)
		}
	}
	return &crowd.Call{
		Frame: &inTurn{[]mem.Frame{trial.MakeActs(take...)(), g, trial.MakeActs(free...)()}},
		Step:  func(take func() bool) bool { return take() },
		Told:  told,
		Mine:  func() arena.Handle { return 0 },
	}
}

// maker makes dels, puts, each of a value of its own, and so many grows; instead of more of them puts.
func maker(t *testing.T, grows int) crowd.Maker {
	made := 0
	return func(c *crowd.Crowd, worker int, mark byte, key string) *crowd.Call {
		switch {
		case mark == '-':
			d := del.New(worker, key)
			return c.DelCall(d, d.Mine, key)
		case mark == '*' && grows > 0:
			grows--
			return makeGrow(t, worker)
		}
		made++
		val := fmt.Sprint(key, made)
		p := put.New(worker, key, val)
		return c.PutCall(p, p.Mine, key, val)
	}
}

// P13.2, P13.3: however the steps of one who grows, and of one who puts in, or takes out, are mixed, by the locks that each has to hold: what keys have is as it has to be, and each place is free, reached, waiting, or one thread's, ahead of each step.
func TestAllWaysOfChanges(t *testing.T) {
	for _, plan := range []crowd.Plan{
		{Room: 1, N: 1, Workers: []string{"*x", "+a"}},
		{Room: 3, N: 1, Keys: "abc", Workers: []string{"*x", "-b"}},
		{Room: 2, N: 1, Keys: "a", Workers: []string{"*x", "*x"}},
		{Room: 3, N: 1, Keys: "ab", Workers: []string{"?b", "*x", "+c"}, Ahead: []int{4, 16, 1}},
		{Room: 3, N: 1, Keys: "abc", Workers: []string{"?b", "-b", "*x"}, Ahead: []int{4, 7}},
		{Room: 3, N: 1, Keys: "abc", Workers: []string{"?c", "-b", "*x"}, Drains: true, Ahead: []int{5, 9, 14}},
	} {
		ends := trial.Explore(func() trial.World { return crowd.New(t, plan, maker(t, 2)) })
		if ends < 10 {
			t.Errorf("of %v there are %d ways alone", plan, ends)
		}
	}
}

// P13.2, P13.3: the same for grows, puts, dels and gets of 1 to 8 workers, and one who frees, of one bucket or of many, in ways that are picked.
func TestManyWays(t *testing.T) {
	grown := 0
	for workers := 1; workers <= mostWorkers; workers++ {
		for seed := range uint32(40) {
			next := trial.Picker(seed*mostWorkers + uint32(workers))
			plan := crowd.PickPlan(next, workers, "+-*")
			// By a plan's own moves chains would be changed without waiting for gets.
			plan.Moves = nil
			c := crowd.New(t, plan, maker(t, 3))
			trial.Run(c, next)
			if c.M.Now().N > plan.N {
				grown++
			}
		}
	}
	if grown < 300 {
		t.Errorf("of 320 crowds %d grew", grown)
	}
}
