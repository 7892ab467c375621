package machine

import (
	"slices"
	"testing"

	"quietus/api"
	"quietus/calls"
	"quietus/plainmap"
	"quietus/trial"
)

// around are a get's steps beside those for nodes.
const around = 5

// watched is a machine beside its twin, whose worker 0 gets: how many steps it took for the get on its way, and for the longest one.
type watched struct {
	*twin
	own, longest int
}

// has a thread that is ready take its step: no get is longer than it may be.
func (w *watched) has(thread int) {
	w.t.Helper()
	ahead, pick := len(w.history), slices.Index(w.ready(), thread)
	// What there is is looked at in the end alone, as there are many steps.
	if pick < 0 || !w.x.Step(pick) {
		w.t.Fatalf("behind %d steps the thread %d isn't ready", w.steps, thread)
	}
	w.play(pick)
	if thread != 0 {
		return
	}
	w.own++
	if w.own > around+w.m.Arena.Room() {
		w.t.Fatalf("behind %d steps a get took %d of them, of the room %d", w.steps, w.own, w.m.Arena.Room())
	}
	if len(w.history) > ahead {
		w.longest = max(w.longest, w.own)
		w.own = 0
	}
}

// getting has the one that gets take so many steps, or as many as there are.
func (w *watched) getting(steps int) {
	w.t.Helper()
	for ; steps > 0 && w.can(0); steps-- {
		w.has(0)
	}
}

// others has all others take so many steps by turns, or as many as there are till none of them is ready.
func (w *watched) others(steps int) {
	w.t.Helper()
	for ; steps > 0; steps-- {
		thread := -1
		for _, turn := range w.turns {
			if turn != 0 && w.can(turn) {
				thread = turn
				break
			}
		}
		if thread < 0 {
			return
		}
		w.has(thread)
	}
}

// ends has all take their steps.
func (w *watched) ends() {
	w.t.Helper()
	for !w.over() {
		w.getting(1)
		w.others(1)
	}
	w.tells("all steps")
	w.same("all steps")
	w.isTold()
}

// P18.3: alone, of a chain of as many nodes as there are places, a get of a key that isn't there takes 5 steps, and one for each place; one of a key that is there takes as many as there are nodes up to its own.
func TestGetAlone(t *testing.T) {
	for room := 1; room <= 40; room++ {
		keys := trial.KeysOf(0, 1, room+1)
		w := &watched{twin: newTwin(t, room, [][]calls.Call{{{Key: keys[room]}, {Key: keys[0]}, {Key: keys[room-1]}}, puts(keys[:room])})}
		w.others(most)
		for _, nodes := range []int{room, room, 1} {
			w.own = 0
			w.getting(around + nodes - 1)
			if w.own != around+nodes-1 {
				t.Fatalf("of the room %d a get took %d steps", room, w.longest)
			}
			w.getting(1)
			if w.own != 0 {
				t.Fatalf("of the room %d a get isn't done", room)
			}
		}
		w.ends()
	}
}

// most is more steps than the calls of these tests have to take.
const most = 100000

// puts are puts of these keys.
func puts(keys []string) []calls.Call {
	var l []calls.Call
	for _, key := range keys {
		l = append(l, calls.Call{Kind: calls.Put, Key: key})
	}
	return l
}

// P18.3, W3: whatever others do ahead of whichever of its steps, a get takes no more of them than it may: they put ahead of it, in the places of nodes, take out, have twice as many buckets, and half as many, and what waits is freed.
func TestGetBesideOthers(t *testing.T) {
	longest := 0
	for _, c := range []struct {
		fill, then string
		room       int
	}{
		{"+a+b+c", "+d+e+f", 6},
		{"+a+b+c", "+a+b+c+a", 6},
		{"+a+b+c+d", "+d+c+b+a", 5},
		{"+a+b+c+d", "-a+a-b+b-c+c", 5},
		{"+a+b+c+d", "-d-c-b-a", 4},
		{"+a+b+c+d", "2x4x1x", 4},
		{"+a+b+c+e", "2x1x-e+d", 5},
		{"4x+a+e+i+m", "+d1x-a4x", 6},
		{"2x+a+b+c", "1x+b2x+a", 4},
	} {
		for _, key := range "aez" {
			lists := plainmap.Lists("g" + string(key) + "gz " + c.fill + c.then)
			for ahead := range around + c.room {
				for steps := 1; steps < 60; steps += 1 + steps/9 {
					for between := 1; between <= 2; between++ {
						w := &watched{twin: newTwin(t, c.room, lists)}
						for len(w.history) < len(c.fill)/2 {
							w.has(1)
						}
						w.getting(ahead)
						w.others(steps)
						w.getting(between)
						w.others(most)
						w.ends()
						longest = max(longest, w.longest-c.room)
					}
				}
			}
		}
	}
	if longest != around {
		t.Errorf("the longest get takes %d steps beside those for places", longest)
	}
}

// P18.3, W3: the same of many gets, beside many calls of several workers, of few keys, that go on by picks, while the one that gets is seldom picked.
func TestGetSeldomPicked(t *testing.T) {
	longest := 0
	for seed := range uint32(90) {
		next := trial.Picker(seed)
		room := 2 + next(6)
		lists := plainmap.PickLists(next, 2+next(4), mostCalls)
		lists[0] = nil
		for range 20 {
			lists[0] = append(lists[0], calls.Call{Key: []string{"k", "l", "m", "none"}[next(4)]})
		}
		w := &watched{twin: newTwin(t, room, lists)}
		for !w.over() {
			w.others(next(12))
			w.getting(next(3))
		}
		w.ends()
		longest = max(longest, w.longest-room)
	}
	if longest < around-1 {
		t.Errorf("the longest get takes %d steps beside those for places", longest)
	}
}

// P18.3, W3: a get of a machine of as many nodes as there may be puts for, and of the greatest room.
func TestGetOfMany(t *testing.T) {
	for _, room := range []int{350, mostNodes} {
		keys := trial.KeysOf(0, 1, 7*mostCalls+1)
		lists := [][]calls.Call{{{Key: keys[len(keys)-1]}}}
		for number := range 7 {
			lists = append(lists, puts(keys[number*mostCalls:(number+1)*mostCalls]))
		}
		x, _ := New(room, lists)
		for room-x.Mem().Arena.Spare() < 7*mostCalls {
			by(t, x, 1)
		}
		// The last put has its node be known, and drops its bucket.
		by(t, x, 1, 1)
		steps := x.Steps()
		if e := x.Run(nil); e != api.OK || x.Steps()-steps != around+7*mostCalls {
			t.Errorf("of the room %d Run = %v, the get takes %d steps", room, e, x.Steps()-steps)
		}
	}
}
