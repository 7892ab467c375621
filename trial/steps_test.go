package trial

import (
	"slices"
	"testing"

	"quietus/arena"
	"quietus/mem"
)

// nothing is an act that changes nothing.
func nothing() Act { return Act{Do: func(*mem.Mem) {}} }

// takesOut are the acts of one of worker 0 that takes out the first node of a chain of the key k, of one bucket, and of one who began anew once.
func takesOut(h arena.Handle) []Act {
	lock := Act{Do: func(m *mem.Mem) { m.Locks.Try(firstWriter, 0) }}
	free := Act{Do: func(m *mem.Mem) { m.Locks.Free(firstWriter, 0) }}
	lead := Act{Do: func(m *mem.Mem) { m.Cells.Store(m.Now().Base, 0) }}
	wait := Act{Do: func(m *mem.Mem) { m.Retire(h) }}
	return []Act{nothing(), lock, nothing(), free, nothing(), lock, nothing(), nothing(), nothing(), lead, wait, free}
}

// takeOut has a frame of these acts take those steps.
func takeOut(t T, acts []Act, told func(what string)) {
	m := Busy(t, 2, 1, 1)
	h := Lay(t, m, m.Now().Base, NewNode("k", "v"))[0]
	s := NewSteps(t, m, 0, "k", MakeActs(acts...), told)
	for _, step := range []func(){s.Load, s.Lock, s.Again, s.Free, s.Hold, s.Cell, func() { s.Pass(1) }, func() { s.Lead(0, 0) }, func() { s.Wait(h) }, s.Drop} {
		step()
	}
}

// Of steps that do what they have to nothing is told; of each of them that does something more, or nothing, though it has to do something, and of a frame that tells something else, it is.
func TestSteps(t *testing.T) {
	says := func(string) {}
	takeOut(t, takesOut(1), says)
	fault := Act{Do: func(m *mem.Mem) { m.Arena.Read(0) }}
	never := Act{Ready: func(*mem.Mem) bool { return false }, Do: func(*mem.Mem) {}}
	for i, act := range takesOut(1) {
		for j, wrong := range []Act{fault, nothing(), never, {Do: func(m *mem.Mem) { act.Do(m); m.Arena.Read(0) }}} {
			acts := takesOut(1)
			acts[i] = wrong
			still := !slices.Contains([]int{1, 3, 5, 9, 10, 11}, i)
			if is := Told(func(t T) { takeOut(t, acts, says) }); is != (j != 1 || !still) {
				t.Errorf("of the wrong act %d, in the place of %d, it is told: %v", j, i, is)
			}
		}
	}
	if !Told(func(t T) { takeOut(t, takesOut(1), func(what string) { t.Fatalf("%s", what) }) }) {
		t.Error("of a frame that tells something else nothing is told")
	}
	if !Told(func(t T) { takeOut(t, takesOut(1)[:11], says) }) {
		t.Error("of a frame that is done too early nothing is told")
	}
}

// linkFirst takes the steps of a frame that links the first one of two nodes, and reads a handle that is stale, as if it had to link the one of this handle.
func linkFirst(t T, ahead arena.Handle) {
	link := Act{Do: func(m *mem.Mem) { m.Arena.Link(1, 7) }}
	read := Act{Do: func(m *mem.Mem) { m.Arena.Read(9) }}
	m := Busy(t, 2, 1, 1)
	Lay(t, m, m.Now().Base, NewNode("k", "v"), NewNode("l", "v"))
	s := NewSteps(t, m, 0, "k", MakeActs(nothing(), link, read, nothing()), func(string) {})
	s.Load()
	s.Lead(ahead, 7)
	s.Fail()
}

// Of a node ahead it is that one's Next that is changed, and no other one's; by a stale handle the flag is up.
func TestStepsOfNodes(t *testing.T) {
	linkFirst(t, 1)
	if !Told(func(t T) { linkFirst(t, 2) }) {
		t.Error("of another node that is linked nothing is told")
	}
}

// A frame that mustn't be ready is stuck, and tells what it did.
func TestStepsStuck(t *testing.T) {
	m := Busy(t, 1, 1, 1)
	asked := 0
	s := NewSteps(t, m, 0, "k", func() mem.Frame { return &count{3, 3} }, func(string) { asked++ })
	s.Stuck("stuck")
	if asked != 2 {
		t.Errorf("it was asked %d times", asked)
	}
}
