package beside

import (
	"slices"
	"testing"

	"quietus/api"
	"quietus/crowd"
	"quietus/get"
	"quietus/grow"
	"quietus/mem"
	"quietus/trial"
)

// Of two buckets a and c are of 0, b and d of 1.
func keys() [][]string { return [][]string{{"a", "b", "c", "d"}} }

// All that are asked are each another key, those that are there, and of each bucket one that isn't.
func TestAllAsked(t *testing.T) {
	there := slices.Concat(keys()[0], trial.KeysOf(1, 2, 1))
	l := AllAsked([][]string{there}, 2)
	met := map[string]bool{}
	buckets := make([]int, 2)
	for _, a := range l {
		if a.There != slices.Contains(there, a.Key) || met[a.Key] {
			t.Errorf("of %v is asked", a)
		}
		met[a.Key] = true
		if !a.There {
			buckets[trial.BucketOf(a.Key, 2)]++
		}
	}
	if len(l) != len(there)+2 || !slices.Equal(buckets, []int{1, 1}) {
		t.Errorf("these are asked: %v", l)
	}
}

// Of a get that finds what there is nothing is told; of one that finds something else, or takes too many steps, or uses a stale handle, it is.
func TestGot(t *testing.T) {
	m := trial.HeldTable(t, 2, 0, keys())
	for i, key := range keys()[0] {
		Got(t, m, 1, Asked{key, true}, i+1, "got")
	}
	Got(t, m, 1, Asked{"e", false}, 4, "got")
	for i, fault := range []func(t trial.T){
		func(t trial.T) { Got(t, m, 1, Asked{"a", false}, 4, "") },
		func(t trial.T) { Got(t, m, 1, Asked{"e", true}, 4, "") },
		func(t trial.T) { Got(t, m, 1, Asked{"d", true}, 3, "") },
		func(t trial.T) { Found(t, m, get.New(1, "a"), Asked{"a", true}, "") },
		func(t trial.T) { m.Arena.Read(0); Got(t, m, 1, Asked{"a", true}, 4, "") },
	} {
		if !trial.Told(fault) {
			t.Errorf("of the fault %d nothing is told", i)
		}
	}
}

// Of a table that has just its keys nothing is told; of one that has one more, or one less, it is.
func TestAllGot(t *testing.T) {
	l := ManyKeys()
	is := trial.Spread([][]string{l}, 4)
	less := trial.Spread([][]string{l[1:]}, 4)
	more := trial.Spread([][]string{append(slices.Clone(l), "none")}, 4)
	for i, keys := range [][][]string{is, less, more} {
		m, _ := mem.New(len(l)+1, 1)
		trial.LayTable(t, m, keys)
		if trial.Told(func(t trial.T) { AllGot(t, m, is, "") }) != (i > 0) {
			t.Errorf("of the table %d it is told wrongly", i)
		}
	}
}

// grows is a change that does what it has to.
func grows() Change {
	return Change{func(worker int) mem.Frame { return grow.New(worker) }, []int{2}}
}

// does is a change of such acts, of so many buckets.
func does(n int, acts ...trial.Act) Change {
	return Change{func(int) mem.Frame { return trial.MakeActs(acts...)() }, []int{n}}
}

// scene is one of a get of each key, one after the other, beside such changes.
func scene(changes ...Change) Scene {
	s := Scene{Keys: keys(), Changes: changes, Gets: [][]Asked{nil}, Drains: true}
	for _, key := range keys()[0] {
		s.Gets[0] = append(s.Gets[0], Asked{key, true})
	}
	return s
}

// unlocked is the same, of changes that take the locks themselves.
func unlocked(changes ...Change) Scene {
	s := scene(changes...)
	s.Locks = true
	return s
}

// rude has a table of two buckets count, and parts the chain, without waiting for anybody.
func rude(m *mem.Mem) {
	l := m.Chain(0)
	number, _ := m.Table(2)
	desc, _ := m.Desc(number)
	m.Cells.Store(desc.Base, uint64(l[0]))
	m.Cells.Store(desc.Base+1, uint64(l[1]))
	m.Cells.Store(currentCell, uint64(number))
	for i, h := range l {
		m.Arena.Link(h, trial.At(l, i+2))
	}
}

// act is an act that can be taken whatever others do.
func act(do func(m *mem.Mem)) trial.Act { return trial.Act{Do: do} }

// Of changes that do what they have to nothing is told; of each fault it is.
func TestEachWay(t *testing.T) {
	still := act(func(*mem.Mem) {})
	EachWay(t, scene(grows()))
	EachWay(t, scene(does(1, still)))
	EachWay(t, scene(Change{does(1, still).Make, nil}))
	EachWay(t, scene(Change{grows().Make, []int{4, 2}}))
	EachWay(t, unlocked(does(1, act(func(m *mem.Mem) {
		if l := m.Locks.Held(0); len(l) != 0 {
			t.Errorf("it holds %v from the beginning on", l)
		}
	}))))
	for i, wrong := range []Scene{
		scene(Change{grows().Make, nil}),
		scene(Change{grows().Make, []int{1}}),
		scene(Change{grows().Make, []int{2, 1}}),
		scene(does(1, act(rude))),
		scene(does(2, act(rude))),
		scene(does(1, act(func(m *mem.Mem) { m.Arena.Read(0) }))),
		scene(does(1, act(func(m *mem.Mem) { m.Arena.Free(3) }))),
		scene(does(1, act(func(m *mem.Mem) { m.Cells.Store(m.Now().Base, 0) }))),
		scene(does(1, act(func(m *mem.Mem) { m.Arena.Link(3, 5) }))),
		scene(does(1, act(func(m *mem.Mem) { m.Locks.Try(periodLock, 0) }))),
		scene(does(1, trial.Act{Ready: func(*mem.Mem) bool { return false }})),
		{Keys: keys(), Changes: []Change{does(1, still)}},
		unlocked(does(1, act(func(m *mem.Mem) { m.Locks.Try(resizeLock, 0) }))),
		unlocked(does(1, act(func(m *mem.Mem) { m.Locks.Try(firstWriter, 1) }))),
		scene(does(1, act(func(m *mem.Mem) { m.Locks.Free(firstWriter, 0) }))),
	} {
		if !trial.Told(func(t trial.T) { EachWay(t, wrong) }) {
			t.Errorf("of the wrong scene %d nothing is told", i)
		}
	}
	if trial.Told(func(t trial.T) {
		EachWay(t, Scene{Keys: keys(), Changes: scene(grows()).Changes, Gets: [][]Asked{{{"e", false}}}})
	}) {
		t.Error("of a key that isn't there it is told")
	}
}

// State tells apart whatever may matter: how far each is, where gets are, and what is held.
func TestState(t *testing.T) {
	met := map[string]bool{}
	w := newWorld(t, scene(grows()))
	picks := []int{1, 1, 1, 1, 1, 0, 0, 2, 1, 1, 1}
	for i, pick := range picks {
		if state := w.State(); met[state] {
			t.Fatalf("behind %d steps the state is one that there was", i)
		} else {
			met[state] = true
		}
		w.Step(pick)
	}
	state := w.State()
	w.m.Locks.Try(periodLock, 0)
	if w.State() == state {
		t.Error("that the period's lock is held isn't told")
	}
}

// failing is a frame of acts that tells an error.
type failing struct {
	trial.Acts
	e api.Errno
}

// Err is the error.
func (f *failing) Err() api.Errno { return f.e }

// tells is a frame of one act, that tells an error.
func tells(e api.Errno, do func(m *mem.Mem)) *failing {
	return &failing{trial.Acts{Left: []trial.Act{act(do)}}, e}
}

// changes are makers of crowds' calls, by their marks.
type changes = map[byte]func(c *crowd.Crowd, worker int) *crowd.Call

// Of puts, dels, and changes, not more of them than there may be, all that is done is what has to be.
func TestMaker(t *testing.T) {
	made := 0
	makeGrow := func(_ *crowd.Crowd, worker int) *crowd.Call {
		made++
		return Locked(t, worker, grow.New(worker))
	}
	plan := crowd.Plan{Room: 4, N: 1, Keys: "ab", Workers: []string{"-b+c-d", "*x*x*x", "?a?a"}, Drains: true}
	c := crowd.New(t, plan, Maker(2, changes{'*': makeGrow}))
	trial.Run(c, trial.Picker(1))
	// The third one is a put of x.
	if made != 2 || c.M.Now().N != 4 || len(c.Vals) != 3 || c.Vals["a"] != "first" || c.Vals["c"] == "" || c.Vals["x"] == c.Vals["c"] {
		t.Errorf("%d are made, the table is %v, the keys have %v", made, c.M.Now(), c.Vals)
	}
}

// Of a change that doesn't fail nothing is told; of one that does, or changes what a key has, or keeps a lock, it is.
func TestCall(t *testing.T) {
	still := func(*mem.Mem) {}
	for i, f := range []*failing{
		tells(api.OK, still),
		tells(api.ErrSize, still),
		tells(api.OK, func(m *mem.Mem) { m.Cells.Store(m.Now().Base, 0) }),
		tells(api.OK, func(m *mem.Mem) { m.Locks.Try(periodLock, 0) }),
	} {
		for _, locked := range []bool{false, true} {
			if trial.Told(func(t trial.T) {
				made := Maker(2, changes{'*': func(_ *crowd.Crowd, worker int) *crowd.Call {
					f := tells(f.e, f.Left[0].Do)
					if locked {
						return Locked(t, worker, f)
					}
					return Call(t, f)
				}})
				trial.Run(crowd.New(t, crowd.Plan{Room: 4, N: 1, Keys: "ab", Workers: []string{"*x"}}, made), trial.Picker(1))
			}) != (i > 0) {
				t.Errorf("of the change %d, its locks taken for it: %v, it is told wrongly", i, locked)
			}
		}
	}
}

// A change of a crowd that leaves the locks to others has all that it has to hold as it goes on, and no two go on at once; another one goes on by itself.
func TestLocked(t *testing.T) {
	m := trial.HeldTable(t, 2, 1, keys())
	trial.FreeAll(m, 1)
	held := []int{1, 2, 3, 4, 5}
	at := func(m *mem.Mem) {
		if l := m.Locks.Held(0); !slices.Equal(l, held) {
			t.Errorf("it holds %v", l)
		}
	}
	f := Locked(t, 0, tells(api.OK, at)).Frame
	m.Locks.Try(3, 1)
	trial.Ahead(t, m, f, 2, "locks")
	if f.Ready(m) {
		t.Fatal("it is ready, though a lock is held")
	}
	m.Locks.Free(3, 1)
	trial.Finish(t, m, f, 3+1+5, "all locks")
	if l := m.Locks.Held(0); len(l) != 0 {
		t.Errorf("done, it holds %v", l)
	}
	held = nil
	trial.Finish(t, m, Call(t, tells(api.OK, at)).Frame, 1, "no lock")
}
