package trial

import (
	"testing"

	"quietus/arena"
	"quietus/mem"
)

// A plain seek holds the bucket of its key, begins anew as another table counts, and goes to the key; what it has to come to is told, and what it was handed stays as it is.
func TestPlainSeek(t *testing.T) {
	m := Busy(t, 3, 2, 1)
	NewTable(t, m, 8)
	Count(m, 2)
	l := Lay(t, m, CellOf(m, "k"), ChainOf(8, NewNode("k", "v"), 3, 1)...)
	Count(m, 1)
	lock := LockOf(NewNode("k", "").Sum, 8)
	p := &PlainSeek{Worker: 1, Key: "k"}
	s := Look(m)
	for i, want := range []Seen{s, s.Holder(firstWriter, 1), s.Holder(firstWriter, 1), s} {
		if i == 2 {
			Count(m, 2)
			s, want = Look(m).Holder(firstWriter, 1), Look(m).Holder(firstWriter, 1)
		}
		if i == 3 {
			want = Look(m)
		}
		if s = p.Step(s); !s.same(want) || p.Over() {
			t.Fatalf("behind the step %d it is %v, not %v", i, s, want)
		}
	}
	s = p.Step(s)
	if p.Ready(s.Holder(lock, 0)) || !p.Ready(s) {
		t.Fatal("it is ready, though its lock is held, or isn't, though it is free")
	}
	for range 5 {
		s = p.Step(s)
	}
	if !p.Over() || p.Found != l[1] || p.Node.Val != "v" || p.First != l[0] || p.Prev != l[0] || p.Lock != lock || p.Desc != m.Now() {
		t.Fatalf("it is %v", *p)
	}
	m.Locks.Try(lock, 1)
	s.Check(t, m, "the bucket is held")
	Link(t, m, l[0], 9)
	p.Lead(s, 9).Check(t, m, "Lead")
	p = &PlainSeek{Key: "k", Desc: m.Now()}
	Link(t, m, l[0], l[1])
	Put(t, m, CellOf(m, "k"), 9)
	p.Lead(s, 9).Check(t, m, "Lead, of nothing that was found")
}

// A plain seek of a number that no table has finds nothing; one that comes to a stale handle does neither, and has the flag be up.
func TestPlainSeekOfNothing(t *testing.T) {
	m := Busy(t, 2, 1, 1)
	m.Cells.Store(currentCell, 9)
	want := Look(m).Holder(firstWriter, 0)
	p := &PlainSeek{Key: "k"}
	s := Look(m)
	for range 4 {
		s = p.Step(s)
	}
	if !p.Over() || p.Found != 0 || p.Desc != (mem.Desc{}) || !s.same(want) {
		t.Fatalf("of no table it is %v, of %v", *p, s)
	}

	Count(m, 1)
	Put(t, m, CellOf(m, "k"), 5)
	p = &PlainSeek{Key: "k"}
	s = Look(m)
	for range 4 {
		s = p.Step(s)
	}
	if p.Over() || !p.Stale(m) {
		t.Fatalf("ahead of a stale handle it is %v", *p)
	}
	if s = p.Step(s); !p.Over() || p.Found != 0 || p.Prev != 0 || p.First != 5 || !s.Fault || p.Stale(m) {
		t.Fatalf("behind a stale handle it is %v", *p)
	}
}

// plainCount is a plain count: a step counts down, and by the last one a node waits.
type plainCount struct{ left int }

// Ready says whether a step is left.
func (p *plainCount) Ready(Seen) bool { return p.left > 0 }

// Step is a step.
func (p *plainCount) Step(before, _ Seen) (Seen, bool) {
	p.left--
	if p.left > 0 {
		return before, false
	}
	return before.Wait(append(before.Waiting, arena.Handle(9))...), true
}

// Of a frame that does what its plain one does nothing is told; of one that is ready, or done, when that isn't, or comes to another memory, it is.
func TestStepAs(t *testing.T) {
	m := Busy(t, 1, 1, 1)
	wait := func(m *mem.Mem) { m.Retire(9) }
	take := func(t T, f mem.Frame, p Plain) bool {
		return StepAs(t, m, f, p, func() bool { return f.Step(m) }, "a step")
	}
	f, p := MakeActs(nothing(), Act{Do: wait})(), &plainCount{2}
	if take(t, f, p) || !take(t, f, p) {
		t.Fatal("it is done by the second step")
	}
	for i, fault := range []func(t T){
		func(t T) { take(t, MakeActs(nothing())(), &plainCount{2}) },
		func(t T) { take(t, MakeActs(nothing(), nothing())(), &plainCount{1}) },
		func(t T) { take(t, MakeActs(nothing())(), &plainCount{1}) },
		func(t T) { take(t, MakeActs(Act{Do: wait}, nothing())(), &plainCount{2}) },
		func(t T) { take(t, &count{2, 2}, &plainCount{2}) },
		func(t T) { take(t, &count{2, 0}, &plainCount{0}) },
	} {
		if !Told(fault) {
			t.Errorf("of fault %d nothing is told", i)
		}
	}
}
