package machine

import (
	"slices"
	"testing"

	"quietus/api"
	"quietus/arena"
	"quietus/calls"
	"quietus/mem"
	"quietus/plainmap"
	"quietus/trial"
	"quietus/worker"
)

// P18.1: Over, Steps and Flight, written out, of a put, a delete, and the drain behind them: it isn't over while a call is left, or on its way, nor while something waits, nor while the one that frees is on its way; it is as soon as none of these is.
func TestOver(t *testing.T) {
	const put, del, drain = 7, 8, 6
	x, _ := New(2, plainmap.Lists("+a-a"))
	m := x.Mem()
	for steps := range put + del + drain {
		// The put has its node alone behind 5 steps, the delete behind 6; a step later it waits.
		waiting := steps == put+7 || steps == put+8
		flight := steps == 5 || steps == put+6 || steps > put+del
		if x.Over() || x.Steps() != steps || m.Waiting() > 0 != waiting || slices.Equal(x.Flight(), []arena.Handle{1}) != flight || len(x.Flight()) > 0 != flight {
			t.Fatalf("behind %d steps Over = %v, Steps = %d, %d wait, Flight = %v", steps, x.Over(), x.Steps(), m.Waiting(), x.Flight())
		}
		by(t, x, 0)
	}
	if !x.Over() || x.Steps() != put+del+drain || m.Arena.Spare() != 2 || len(x.Flight()) > 0 {
		t.Fatalf("behind %d steps Over = %v", x.Steps(), x.Over())
	}
}

// P18.1: of machines without a call, and of those of which each call is done, it is over, till something comes to wait; and again, as soon as that is taken by somebody else.
func TestOverAgain(t *testing.T) {
	for _, words := range []string{"ga", "+a-a 2x", "!x !x !x"} {
		for _, l := range [][][]calls.Call{plainmap.Lists(words), make([][]calls.Call, 3)} {
			w := newTwin(t, 3, l)
			w.goOn()
			for range 3 {
				if !w.x.Over() {
					t.Fatal("all is done, it isn't over")
				}
				w.each(func(m *mem.Mem) { waits(t, m) })
				w.tells("something waits")
				if w.x.Over() {
					t.Fatal("something waits, it is over")
				}
				w.each(func(m *mem.Mem) { m.Arena.Free(m.Take()[0]) })
				w.tells("nothing waits any more")
			}
		}
	}
}

// P18.1: one worker that isn't done is enough for it not to be over, whichever that is.
func TestOneIsLeft(t *testing.T) {
	for workers := 1; workers <= mostWorkers; workers++ {
		for left := range workers {
			lengths := make([]int, workers)
			lengths[left] = 3
			x, _ := New(1, refused(lengths...))
			for step := range 3 {
				if x.Over() {
					t.Fatalf("behind %d steps, of which 3 are the worker %d's, it is over", step, left)
				}
				by(t, x, step)
			}
			if !x.Over() {
				t.Fatalf("the worker %d is done, it isn't over", left)
			}
		}
	}
}

// P18.1: History, written out: entries stand in the order in which the calls were done, not in that in which they began, nor in that of the workers.
func TestHistory(t *testing.T) {
	x, _ := New(2, [][]calls.Call{{{Kind: calls.Put, Key: "a", Val: "x"}}, {{Key: "a"}, {Kind: 7, Key: "b", Val: "v", Size: 9}}, {{Kind: calls.Resize, Size: 3}}})
	if len(x.History()) != 0 {
		t.Errorf("ahead of the first step there are %v", x.History())
	}
	by(t, x, 0, 1, 2, 1, 1, 1)
	if len(x.History()) != 1 {
		t.Errorf("behind 6 steps there are %v", x.History())
	}
	by(t, x, 1, 1, 0, 0, 0, 0, 0, 0)
	want := []worker.Entry{
		{Worker: 2, Index: 0, Call: calls.Call{Kind: calls.Resize, Size: 3}, Begin: 2, End: 2, Result: calls.Result{Err: api.ErrSize}},
		{Worker: 1, Index: 0, Call: calls.Call{Key: "a"}, Begin: 1, End: 6, Result: calls.Result{}},
		{Worker: 1, Index: 1, Call: calls.Call{Kind: 7, Key: "b", Val: "v", Size: 9}, Begin: 7, End: 7, Result: calls.Result{Err: api.ErrForm}},
		{Worker: 0, Index: 0, Call: calls.Call{Kind: calls.Put, Key: "a", Val: "x"}, Begin: 0, End: 13, Result: calls.Result{}},
	}
	if is := x.History(); !slices.Equal(is, want) || !x.Over() {
		t.Errorf("there are %v, not %v", is, want)
	}
}

// P18.1, R3: histories that were handed out stay as they were, whatever comes behind them, and are each a list of its own: what is changed of one, with the room behind its end, and what comes behind it, changes nothing of others, nor of the machine.
func TestHistoriesAreNew(t *testing.T) {
	x, _ := New(3, refused(mostCalls))
	var all [][]worker.Entry
	for range mostCalls {
		by(t, x, 0)
		all = append(all, x.History(), append(x.History(), worker.Entry{Worker: somebody}))
	}
	for i, l := range all {
		for index, e := range l[:1+i/2] {
			if e.Index != index || e.Worker != 0 || e.Result.Err != api.ErrKey {
				t.Fatalf("the history %d is %v", i, l)
			}
		}
		if len(l) != 1+i/2+i%2 {
			t.Fatalf("the history %d is %v", i, l)
		}
		spoil(l, worker.Entry{Worker: somebody})
	}
	if l := x.History(); len(l) != mostCalls || l[0].Worker != 0 {
		t.Errorf("behind the changes there are %v", l)
	}
}

// P18.1, R3: Flight, written out: the node of each worker that has one that nobody else knows of, in the workers' order, no noughts; then what is left of the one that frees, in its own order. What is changed of one that was handed out changes nothing.
func TestFlight(t *testing.T) {
	w := newTwin(t, 9, plainmap.Lists("+a 4x +b gg +c"))
	flies := func(want ...arena.Handle) {
		t.Helper()
		if is := w.x.Flight(); !slices.Equal(is, want) {
			t.Fatalf("behind %d steps Flight = %v, not %v", w.steps, is, want)
		}
		spoil(append(w.x.Flight(), somebody), somebody)
	}
	flies()
	// In a table of four buckets these three keys' locks are three.
	for len(w.history) == 0 {
		w.have(1)
	}
	for i, number := range []int{4, 0, 2} {
		for range 4 {
			w.have(number)
		}
		flies([][]arena.Handle{nil, {1}, {2, 1}}[i]...)
		w.have(number)
	}
	flies(2, 3, 1)
	w.each(func(m *mem.Mem) {
		for range 3 {
			trial.Alloc(t, m, arena.Node{Key: "waits"})
		}
		for _, h := range []arena.Handle{6, 4, 5} {
			m.Retire(h)
		}
	})
	flies(2, 3, 1)
	w.have(w.frees())
	flies(2, 3, 1, 6, 4, 5)
	w.have(0)
	flies(3, 1, 6, 4, 5)
	for range 3 + 5 {
		w.have(w.frees())
	}
	flies(3, 1, 6, 4, 5)
	w.have(w.frees())
	flies(3, 1, 4, 5)
	w.have(4)
	flies(3, 4, 5)
	w.have(2)
	w.have(w.frees())
	flies(5)
	w.have(w.frees())
	flies()
}
