package trial

import (
	"testing"

	"quietus/api"
	"quietus/arena"
	"quietus/mem"
)

// failing is a frame of acts that tells an error.
type failing struct {
	Acts
	e api.Errno
}

// Err is the error.
func (f *failing) Err() api.Errno { return f.e }

// do is a frame of such acts, that tells that all is well.
func do(l ...func(m *mem.Mem)) *failing {
	f := &failing{}
	for _, do := range l {
		f.Left = append(f.Left, Act{Do: do})
	}
	return f
}

// tableMem is a memory of a table of four keys, all in one bucket.
func tableMem(t T) *mem.Mem { return HeldTable(t, 2, 0, [][]string{{"a", "b", "c", "d"}}) }

// steps are such that change one thing each: a word, a lock, a node's Next, that there is a table more, the flag, and nothing.
func steps() []func(m *mem.Mem) {
	return []func(m *mem.Mem){
		func(m *mem.Mem) { m.Cells.Store(currentCell, 0) },
		func(m *mem.Mem) { m.Locks.Try(periodLock, 0) },
		func(m *mem.Mem) { m.Locks.Free(periodLock, 0) },
		func(m *mem.Mem) { m.Arena.Link(3, 5) },
		func(m *mem.Mem) { m.Table(2) },
		func(m *mem.Mem) { m.Arena.Read(0) },
		func(*mem.Mem) {},
	}
}

// Of steps that change one thing each nothing is told; of two of them at once, and of one that changes what it mustn't, it is.
func TestOneAtMost(t *testing.T) {
	Alone(t, tableMem(t), do(steps()...), "steps of one thing each")
	wrong := []func(m *mem.Mem){
		func(m *mem.Mem) { m.Retire(9) },
		func(m *mem.Mem) { m.Take() },
		func(m *mem.Mem) { m.Arena.Alloc(arena.Node{}) },
		func(m *mem.Mem) { m.Arena.Free(3) },
		func(m *mem.Mem) { m.Arena.Free(3); m.Arena.Alloc(NewNode("a", OwnVal("a"))) },
		func(m *mem.Mem) { m.Arena.Free(6); m.Arena.Alloc(NewNode("d", "other")) },
		func(m *mem.Mem) { m.Cells.Grow(1) },
	}
	word, lock, link, table := steps()[0], steps()[1], steps()[3], steps()[4]
	for _, two := range [][2]func(m *mem.Mem){{word, lock}, {word, link}, {word, table}, {lock, link}, {lock, table}, {link, table}, {table, table}} {
		wrong = append(wrong, func(m *mem.Mem) { two[0](m); two[1](m) })
	}
	for i, step := range wrong {
		if !Told(func(t T) { Alone(t, tableMem(t), do(step), "a wrong step") }) {
			t.Errorf("of the wrong step %d nothing is told", i)
		}
	}
}

// A frame that isn't ready, or has no end, is told of.
func TestAlone(t *testing.T) {
	never := &failing{Acts: Acts{Left: []Act{{Ready: func(*mem.Mem) bool { return false }}}}}
	var round func(m *mem.Mem)
	endless := do()
	round = func(*mem.Mem) { endless.Left = append(endless.Left, Act{Do: round}) }
	endless.Left = []Act{{Do: round}}
	for _, f := range []*failing{never, endless} {
		if !Told(func(t T) { Alone(t, tableMem(t), f, "alone") }) {
			t.Error("nothing is told")
		}
	}
}

// The one node that is another one is told; of none, and of two, it isn't.
func TestChanged(t *testing.T) {
	m := tableMem(t)
	before := Look(m)
	for i, want := range []arena.Handle{0, 4, 4, 0} {
		switch i {
		case 1:
			Link(t, m, 4, 0)
		case 2:
			Alloc(t, m, arena.Node{})
		case 3:
			Free(t, m, 3)
		}
		if is := Look(m).Changed(before); is != want {
			t.Errorf("behind the change %d it is %d", i, is)
		}
	}
}
