package crowd

import (
	"fmt"
	"slices"
	"testing"

	"quietus/arena"
	"quietus/mem"
	"quietus/trial"
)

// fault is what a call does that it mustn't.
type fault int

// The faults.
const (
	nothing fault = iota
	loses
	twice
	uses
	keeps
	otherVal
	otherKey
	untold
)

// out takes out the first node of a key's chain: one step takes the lock, one changes the chain, one has the node wait, one frees the lock.
type out struct {
	c     *Crowd
	key   string
	at    int
	mine  arena.Handle
	wrong fault
}

// Ready says whether the lock is free, if it has to take it.
func (o *out) Ready(m *mem.Mem) bool { return o.at != 0 || m.Locks.Holder(firstWriter) == -1 }

// Step takes its step.
func (o *out) Step(m *mem.Mem) bool {
	switch o.at {
	case 0:
		m.Locks.Try(firstWriter, 0)
	case 1:
		o.pass(m)
	case 2:
		if o.wrong != loses {
			m.Retire(o.mine)
		}
		if o.wrong == uses {
			m.Arena.Read(0)
		}
		if o.wrong != twice {
			o.mine = 0
		}
	case 3:
		if o.wrong != keeps {
			m.Locks.Free(firstWriter, 0)
		}
	}
	o.at++
	return o.at == 4
}

// pass passes over the first node.
func (o *out) pass(m *mem.Mem) {
	l := append(m.Chain(trial.BucketOf(o.key, m.Now().N)), 0)
	m.Cells.Store(trial.CellOf(m, o.key), uint64(l[1]))
	o.mine = l[0]
	if o.wrong != otherVal {
		delete(o.c.Vals, o.key)
	}
	if o.wrong == otherKey {
		o.c.Vals["b"] = "wrong"
	}
}

// maker makes calls with a fault.
func maker(t trial.T, wrong fault) Maker {
	return func(c *Crowd, worker int, mark byte, key string) *Call {
		o := &out{c: c, key: key, wrong: wrong}
		says := func() {
			if wrong == untold {
				t.Fatalf("it tells something else, by the mark %c of %d", mark, worker)
			}
		}
		step := func(take func() bool) bool { return take() }
		return &Call{Frame: o, Step: step, Told: says, Mine: func() arena.Handle { return o.mine }}
	}
}

// plan is one who takes out beside one who gets, one who has another table count, and one who frees.
func plan() Plan {
	return Plan{Room: 3, N: 1, Keys: "ab", Workers: []string{"-a", "?a"}, Moves: []int{1}, Drains: true, Ahead: []int{1, 2}}
}

// Of calls that do what they have to nothing is told, and all ends; of each fault it is.
func TestFaults(t *testing.T) {
	run := func(t trial.T, wrong fault) *Crowd {
		c := New(t, plan(), maker(t, wrong))
		trial.Run(c, trial.Picker(3))
		return c
	}
	c := run(t, nothing)
	if !slices.Equal(c.M.Reach(), []arena.Handle{2}) || c.M.Arena.Spare() != 2 || c.Vals["b"] != "first" || len(c.Vals) != 1 {
		t.Fatalf("these are reached: %v, the keys have %v", c.M.Reach(), c.Vals)
	}
	for _, wrong := range []fault{loses, twice, uses, keeps, otherVal, otherKey, untold} {
		if !trial.Told(func(t trial.T) { run(t, wrong) }) {
			t.Errorf("of the fault %d nothing is told", wrong)
		}
	}
}

// putFirst has a key have a value, which is new, by one step.
func putFirst(t trial.T, m *mem.Mem, key, val string) {
	node := trial.NewNode(key, val)
	node.Next = m.Chain(trial.BucketOf(key, m.Now().N))[0]
	trial.Put(t, m, trial.CellOf(m, key), trial.Alloc(t, m, node))
}

// plainMaker makes calls that put in, and take out, of which nothing is looked at but what keys have; if they are wrong, they do it to another key than they say.
func plainMaker(t trial.T, wrong bool) Maker {
	return func(c *Crowd, worker int, mark byte, key string) *Call {
		says := key
		if wrong {
			says = "b"
		}
		if mark == '-' {
			o := &out{c: c, key: key, wrong: otherVal}
			return c.DelCall(o, func() arena.Handle { return o.mine }, says)
		}
		put := trial.MakeActs(trial.Act{Do: func(m *mem.Mem) { putFirst(t, m, key, "new") }})
		return c.PutCall(put(), func() arena.Handle { return 0 }, says, "new")
	}
}

// Calls of which nothing is looked at but what keys have have them have it, from the step on by which it is so; of another key than they say it is told.
func TestPlainCalls(t *testing.T) {
	for _, marks := range []string{"-a", "+c"} {
		c := New(t, Plan{Room: 4, N: 1, Keys: "ab", Workers: []string{marks, "?b"}}, plainMaker(t, false))
		trial.Run(c, trial.Picker(3))
		if want := map[string]string{"-a": "", "+c": "new"}[marks]; c.Vals[marks[1:]] != want || c.Vals["b"] != "first" {
			t.Errorf("behind %q the keys have %v", marks, c.Vals)
		}
		wrong := trial.Told(func(t trial.T) {
			trial.Run(New(t, Plan{Room: 4, N: 1, Keys: "ab", Workers: []string{marks, "?b"}}, plainMaker(t, true)), trial.Picker(3))
		})
		if !wrong {
			t.Errorf("of %q of another key nothing is told", marks)
		}
	}
}

// Of a get that finds what its key didn't have since it began it is told.
func TestGets(t *testing.T) {
	for _, wrong := range []bool{false, true} {
		is := trial.Told(func(t trial.T) {
			c := New(t, Plan{Room: 1, N: 1, Keys: "a", Workers: []string{"?a"}}, nil)
			if node := c.M.Reach()[0]; wrong {
				c.M.Arena.Free(node)
				trial.Put(t, c.M, trial.CellOf(c.M, "a"), trial.Alloc(t, c.M, trial.NewNode("a", "other")))
			}
			trial.Run(c, trial.Picker(1))
		})
		if is != wrong {
			t.Errorf("of a get it is told: %v", is)
		}
	}
}

// Tables that come to count have as many buckets as they have to, and what there was, in whichever way the steps are mixed.
func TestMoves(t *testing.T) {
	for _, n := range []int{1, 2, 4} {
		for seed := range uint32(20) {
			c := New(t, Plan{Room: 4, N: 2, Keys: "abcd", Workers: []string{"-b"}, Moves: []int{4, n}}, maker(t, nothing))
			trial.Run(c, trial.Picker(seed))
			l := c.M.Reach()
			slices.Sort(l)
			if c.M.Now().N != n || !slices.Equal(l, []arena.Handle{1, 3, 4}) {
				t.Fatalf("%v counts, these are reached: %v", c.M.Now(), l)
			}
		}
	}
}

// Plans that are picked are of what they have to be: all workers, and of as many buckets, if there are gets.
func TestPickPlan(t *testing.T) {
	gets := 0
	for seed := range uint32(50) {
		p := PickPlan(trial.Picker(seed), 3, "-")
		all := fmt.Sprint(p.Workers)
		asked := slices.Contains([]byte(all), asks)
		if len(p.Workers) != 3 || p.Room <= len(p.Keys) || !p.Drains || asked && slices.ContainsFunc(p.Moves, func(n int) bool { return n != p.N }) {
			t.Fatalf("a plan is %v", p)
		}
		if asked {
			gets++
		}
	}
	if gets == 0 || gets == 50 {
		t.Errorf("of 50 plans %d have gets", gets)
	}
}
