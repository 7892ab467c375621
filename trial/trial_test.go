package trial

import (
	"fmt"
	"slices"
	"strings"
	"testing"

	"quietus/api"
	"quietus/arena"
	"quietus/mem"
)

// newMem is a memory with two nodes, one of them freed once, and one that waits.
func newMem(t *testing.T) (*mem.Mem, arena.Handle) {
	t.Helper()
	m, e := mem.New(3, 2)
	if e != api.OK {
		t.Fatal(e)
	}
	h, _ := m.Arena.Alloc(arena.Node{})
	m.Arena.Free(h)
	h, _ = m.Arena.Alloc(arena.Node{Key: "k", Val: "v", Sum: 7})
	l, _ := m.Arena.Alloc(arena.Node{Next: h})
	m.Retire(l)
	return m, h
}

// Of whatever changes in a memory Check tells, of one that stays as it is it doesn't, and Look changes nothing.
func TestCheck(t *testing.T) {
	changes := []func(m *mem.Mem, h arena.Handle){
		func(m *mem.Mem, _ arena.Handle) { m.Cells.Store(0, 9) },
		func(m *mem.Mem, _ arena.Handle) { m.Cells.Grow(1) },
		func(m *mem.Mem, _ arena.Handle) { m.Locks.Try(5, 1) },
		func(m *mem.Mem, _ arena.Handle) { m.Table(1) },
		func(m *mem.Mem, h arena.Handle) { m.Arena.Link(h, h) },
		func(m *mem.Mem, h arena.Handle) { m.Arena.Free(h) },
		func(m *mem.Mem, h arena.Handle) {
			m.Arena.Free(h)
			m.Arena.Alloc(arena.Node{Key: "k", Val: "v", Sum: 7})
		},
		func(m *mem.Mem, _ arena.Handle) { m.Arena.Alloc(arena.Node{}) },
		func(m *mem.Mem, _ arena.Handle) { m.Arena.Read(0) },
		func(m *mem.Mem, h arena.Handle) { m.Retire(h) },
		func(m *mem.Mem, _ arena.Handle) { m.Take() },
	}
	for i, change := range changes {
		m, h := newMem(t)
		before := Look(m)
		before.Check(t, m, "Look")
		change(m, h)
		if !Told(func(t T) { before.Check(t, m, "a change") }) {
			t.Errorf("of change %d Check tells nothing", i)
		}
	}
}

// What a memory has to be behind a change is what it is.
func TestWant(t *testing.T) {
	m, h := newMem(t)
	before := Look(m)
	want := before.Period(4).Counter(1, 3).Word(1, 8).Holder(2, 1).Wait(h, 0).Freed(h).Freed(h)
	m.Cells.Store(0, 4)
	m.Cells.Store(3, 3)
	m.Cells.Store(1, 8)
	m.Locks.Try(2, 1)
	m.Take()
	m.Retire(h)
	m.Retire(0)
	m.Arena.Free(h)
	m.Arena.Free(h)
	want.Check(t, m, "all changes")
	if l := In(m); !slices.Equal(l, []int{1}) {
		t.Errorf("In = %v", l)
	}
	if l := want.Live(); !slices.Equal(l, []arena.Handle{2}) {
		t.Errorf("Live = %v", l)
	}
	m, _ = newMem(t)
	before.Check(t, m, "what there was ahead of the changes")
}

// The same of nodes that are taken, and linked.
func TestWantNodes(t *testing.T) {
	m, h := newMem(t)
	before := Look(m)
	node := arena.Node{Key: "n", Next: h}
	want := before.Freed(h).Taken(h+far, node).Taken(3, node).Linked(2, 3)
	Free(t, m, h)
	Alloc(t, m, node)
	Alloc(t, m, node)
	Link(t, m, 2, 3)
	want.Check(t, m, "nodes")
	if l := want.Came(before); !slices.Equal(l, []arena.Handle{h + far, 3}) {
		t.Errorf("Came = %v", l)
	}
	if n, live := want.Node(h); n != (arena.Node{}) || live {
		t.Errorf("of a handle that is stale Node = %v, %v", n, live)
	}
	if n, live := want.Node(3); n != node || !live {
		t.Errorf("Node = %v, %v", n, live)
	}
	want = want.Linked(h, 3)
	m.Arena.Link(h, 3)
	want.Check(t, m, "a handle that is stale")
	m, _ = newMem(t)
	before.Check(t, m, "what there was ahead of the changes")
}

// Nodes are seen, however often their places were freed, in the order of the places.
func TestGenerations(t *testing.T) {
	m, h := newMem(t)
	for range 1000 {
		Free(t, m, h)
		h = Alloc(t, m, arena.Node{Key: "k"})
	}
	if l := Look(m).Live(); !slices.Equal(l, []arena.Handle{h, 2}) || h != 1+1001*far {
		t.Errorf("Live = %v, the handle is %d", l, h)
	}
}

// count is a frame of so many steps, that isn't ready once it is at one of them.
type count struct{ left, stuck int }

// Ready says whether it is at another step.
func (c *count) Ready(*mem.Mem) bool { return c.left != c.stuck }

// Step takes its step, if it is ready.
func (c *count) Step(m *mem.Mem) bool {
	if c.Ready(m) {
		c.left--
	}
	return c.left == 0
}

// Of a frame that is ready, or done, when it mustn't be, or isn't when it has to be, or in other steps, it is told; else not.
func TestFrames(t *testing.T) {
	m, _ := newMem(t)
	Step(t, m, &count{2, 0}, false, "a step")
	Step(t, m, &count{1, 0}, true, "the last step")
	Ahead(t, m, &count{4, 0}, 3, "steps")
	Stuck(t, m, &count{3, 3}, "stuck")
	Finish(t, m, &count{5, 0}, 5, "all steps")
	faults := []func(t T){
		func(t T) { Step(t, m, &count{2, 0}, true, "") },
		func(t T) { Step(t, m, &count{1, 0}, false, "") },
		func(t T) { Step(t, m, &count{2, 2}, false, "") },
		func(t T) { Ahead(t, m, &count{3, 0}, 3, "") },
		func(t T) { Ahead(t, m, &count{3, 1}, 3, "") },
		func(t T) { Stuck(t, m, &count{3, 2}, "") },
		func(t T) { Finish(t, m, &count{5, 0}, 4, "") },
		func(t T) { Finish(t, m, &count{5, 0}, 6, "") },
		func(t T) { Finish(t, m, &count{5, 2}, 3, "") },
	}
	for i, fault := range faults {
		if !Told(fault) {
			t.Errorf("of fault %d nothing is told", i)
		}
	}
}

// Acts are done in order, each when it can be; a frame that is made anew does all of them again.
func TestActs(t *testing.T) {
	m, _ := newMem(t)
	did, may := "", false
	do := func(what string) func(*mem.Mem) { return func(*mem.Mem) { did += what } }
	frame := MakeActs(Act{Do: do("a")}, Act{func(*mem.Mem) bool { return may }, do("b")}, Act{Do: do("c")})
	for _, want := range []string{"abc", "abcabc"} {
		may = false
		f := frame()
		Ahead(t, m, f, 1, "an act")
		if f.Ready(m) {
			t.Fatal("an act that can't be taken is ready")
		}
		may = true
		Finish(t, m, f, 2, "the acts that are left")
		if did != want {
			t.Fatalf("done is %q, not %q", did, want)
		}
	}
}

// world is threads of counts, and what they did.
type world struct {
	m       *mem.Mem
	threads []*Thread
	way     string
	ways    map[string]int
}

// Ready are the threads that are ready.
func (w *world) Ready() []int { return Ready(w.m, w.threads) }

// Step has a thread take its step.
func (w *world) Step(i int) {
	w.threads[i].Step(w.m)
	w.way += fmt.Sprint(i)
}

// End counts the way.
func (w *world) End() { w.ways[w.way]++ }

// All ways in which two steps and three can be mixed are gone, each once; so many is what Explore says.
func TestExplore(t *testing.T) {
	m, _ := newMem(t)
	ways := map[string]int{}
	fresh := func() World {
		one := &Thread{Makers: []func() mem.Frame{func() mem.Frame { return &count{2, 0} }}}
		two := &Thread{Makers: []func() mem.Frame{func() mem.Frame { return &count{1, 0} }, func() mem.Frame { return &count{2, 0} }}}
		return &world{m: m, threads: []*Thread{one, two}, ways: ways}
	}
	if n := Explore(fresh); n != 10 || len(ways) != 10 {
		t.Errorf("Explore = %d, the ways are %v", n, ways)
	}
	for way, n := range ways {
		if n != 1 || len(way) != 5 {
			t.Errorf("the way %q was gone %d times", way, n)
		}
	}
	Run(fresh(), Picker(5))
	if len(ways) != 10 {
		t.Errorf("behind Run the ways are %v", ways)
	}
}

// State is how many steps each thread took.
func (w *world) State() string {
	return fmt.Sprint(strings.Count(w.way, "0"), strings.Count(w.way, "1"))
}

// All states of two steps and three are met, and the one at which nobody is ready is an end, once.
func TestExploreStates(t *testing.T) {
	m, _ := newMem(t)
	ways := map[string]int{}
	fresh := func() Stated {
		one := &Thread{Makers: []func() mem.Frame{func() mem.Frame { return &count{2, 0} }}}
		two := &Thread{Makers: []func() mem.Frame{func() mem.Frame { return &count{1, 0} }, func() mem.Frame { return &count{2, 0} }}}
		return &world{m: m, threads: []*Thread{one, two}, ways: ways}
	}
	if n := ExploreStates(fresh); n != 3*4 || len(ways) != 1 {
		t.Errorf("ExploreStates = %d, the ends are %v", n, ways)
	}
}
