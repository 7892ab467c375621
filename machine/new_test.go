package machine

import (
	"math"
	"math/bits"
	"slices"
	"testing"

	"quietus/api"
	"quietus/calls"
	"quietus/plainmap"
	"quietus/trial"
)

// rooms are rooms that may be: the least and the greatest one, and those next to them; and such that may not.
func rooms() (may, not []int) {
	high := 1 << (bits.UintSize / 2)
	return []int{1, 2, 3, mostNodes - 1, mostNodes}, []int{0, -1, -2, mostNodes + 1, 2 * mostNodes, 65536, high, high + 1, -high, math.MinInt32, math.MaxInt32, math.MinInt, math.MinInt + 1, math.MaxInt}
}

// made says whether a machine is made of that room and these lists, and has that room, as many workers as there are lists, and nothing done.
func made(t *testing.T, room int, l [][]calls.Call) {
	t.Helper()
	x, e := New(room, l)
	if x == nil || e != api.OK {
		t.Fatalf("New(%d, of %d lists) = %v", room, len(l), e)
	}
	m := x.Mem()
	if m.Arena.Room() != room || m.Arena.Spare() != room || m.Workers() != len(l) || m.Now().N != 1 || m.Waiting() != 0 || m.Arena.Fault() || len(m.Reach()) != 0 {
		t.Fatalf("of New(%d, of %d lists) the memory is %v", room, len(l), trial.Look(m))
	}
	if x.Steps() != 0 || len(x.History()) != 0 || len(x.Flight()) != 0 || x.Over() != (len(slices.Concat(l...)) == 0) {
		t.Fatalf("of New(%d, of %d lists) there are %d steps, Over = %v", room, len(l), x.Steps(), x.Over())
	}
	trial.AtRest(t, m)
}

// isRefused says whether no machine is made.
func isRefused(t *testing.T, room int, l [][]calls.Call) {
	t.Helper()
	if x, e := New(room, l); x != nil || e != api.ErrRange {
		t.Fatalf("New(%d, of %d lists) = %v, %v", room, len(l), x, e)
	}
}

// P18.1: rooms from 1 to 1024 may be, no others: ErrRange, and nil beside it.
func TestRooms(t *testing.T) {
	may, not := rooms()
	for workers := 1; workers <= mostWorkers; workers++ {
		l := plainmap.Lists("+a g- -b 4x2x !a +a+b+c gagbgc 1x")[:workers]
		for _, room := range may {
			made(t, room, l)
		}
		for _, room := range not {
			isRefused(t, room, l)
		}
	}
}

// P18.1, R4: from 1 to 8 lists may be, of calls or of none; no list, and 9 and more, may not, of whatever rooms.
func TestLists(t *testing.T) {
	may, not := rooms()
	for _, n := range []int{0, 1, 2, 3, 4, 5, 6, 7, 8, 9, 10, 11, 16, 17, 50, 64, 256, 257, 1000, 65536, 65537} {
		for i, own := range [][]calls.Call{nil, {}, plainmap.Long(2, 3)} {
			l := slices.Repeat([][]calls.Call{own}, n)
			if n == 0 && i > 0 {
				l = nil
			}
			for _, room := range may {
				if n >= 1 && n <= mostWorkers {
					made(t, room, l)
				} else {
					isRefused(t, room, l)
				}
			}
			for _, room := range not {
				isRefused(t, room, l)
			}
		}
	}
}

// P18.1: lists of up to 50 calls may be, whichever worker's, no longer ones, of whatever rooms, and beside as many lists as may be, or too many.
func TestLengths(t *testing.T) {
	may, not := rooms()
	for _, n := range []int{0, 1, 2, mostCalls - 1, mostCalls, mostCalls + 1, mostCalls + 2, 2 * mostCalls, 256, 257, 1000, 65536, 65537} {
		for workers := 1; workers <= mostWorkers+1; workers++ {
			for long := range workers {
				l := slices.Repeat([][]calls.Call{plainmap.Long(2, 3)}, workers)
				l[long] = make([]calls.Call, n)
				if n <= mostCalls && workers <= mostWorkers {
					made(t, may[long%len(may)], l)
				} else {
					isRefused(t, may[long%len(may)], l)
				}
				isRefused(t, not[long%len(not)], l)
			}
		}
	}
	made(t, 5, slices.Repeat([][]calls.Call{plainmap.Long(mostCalls, 0)}, mostWorkers))
	isRefused(t, 5, slices.Repeat([][]calls.Call{plainmap.Long(mostCalls+1, 0)}, mostWorkers))
}

// P18.1: of the greatest machine that there may be all calls are done, and of that of the least room.
func TestGreatest(t *testing.T) {
	for _, room := range []int{1, 2, mostNodes} {
		l := plainmap.PickLists(trial.Picker(uint32(room)), mostWorkers, mostCalls)
		for number := range l {
			l[number] = append(l[number], plainmap.Long(mostCalls, 0)...)[:mostCalls]
		}
		w := newTwin(t, room, l)
		w.run(nil, api.OK)
		if n := len(w.x.History()); n != mostWorkers*mostCalls {
			t.Errorf("of the room %d %d calls are done", room, n)
		}
	}
}

// lists are the lists of the tests of lists that are changed, of workers with no, few and many calls, with room behind the ends, in which there are calls, too.
func lists() [][]calls.Call {
	l := [][]calls.Call{plainmap.Long(9, 4), nil, plainmap.Long(mostCalls, 7), plainmap.Long(0, 3), plainmap.Long(1, 1), plainmap.Long(3, 0), plainmap.Long(5, 5)}
	return l[:5]
}

// clones are such lists, the room behind their ends with them.
func clones(l [][]calls.Call) [][]calls.Call {
	var all [][]calls.Call
	for _, own := range l[:cap(l)] {
		all = append(all, slices.Clone(own[:cap(own)]))
	}
	return all
}

// P18.1, R3: lists that were handed in, changed behind New, or between any two steps, they themselves, and which ones they are, with the room behind their ends, change no call of the machine.
func TestListsAreChanged(t *testing.T) {
	want, _ := New(9, lists())
	want.Run(nil)
	for _, ahead := range []int{0, 1, 2, want.Steps() / 2, want.Steps() - 1} {
		l := lists()
		x, _ := New(9, l)
		for !x.Over() {
			if x.Steps() == ahead {
				for _, own := range l[:cap(l)] {
					plainmap.Spoil(own)
				}
				clear(l[:cap(l)])
			}
			by(t, x, -1)
		}
		if !slices.Equal(x.History(), want.History()) || x.Steps() != want.Steps() {
			t.Fatalf("changed ahead of the step %d: there are %v, not %v", ahead, x.History(), want.History())
		}
	}
}

// P18.1, R3: lists that were handed in aren't changed, nor the room behind their ends, by New, and by none of the steps.
func TestListsStay(t *testing.T) {
	for _, room := range []int{9, 0} {
		l := lists()
		same := clones(l)
		x, _ := New(room, l)
		for step := 0; ; step++ {
			if !slices.EqualFunc(clones(l), same, slices.Equal) {
				t.Fatalf("ahead of the step %d the lists are %v", step, l)
			}
			if x == nil || !x.Step(-1) {
				break
			}
		}
	}
}

// P18.1: workers of one list know nothing of each other: each does what it was handed; and machines of one list neither.
func TestOneList(t *testing.T) {
	own := plainmap.Long(20, 3)
	l := [][]calls.Call{own, own, own[3:7], own[:0], own}
	one, two := newTwin(t, 7, l), newTwin(t, 7, l)
	for i, some := 0, true; some; i++ {
		some = one.take(i) >= 0
		if two.take(-1) >= 0 {
			some = true
		}
	}
	for _, w := range []*twin{one, two} {
		w.same("behind all steps")
		if len(w.x.History()) != 20+20+4+20 {
			t.Errorf("there are %v", w.x.History())
		}
	}
}

// R4: nil and empty lists are one.
func TestNoLists(t *testing.T) {
	isRefused(t, 1, nil)
	isRefused(t, 1, [][]calls.Call{})
	isRefused(t, 1, lists()[:0])
	for _, none := range [][]calls.Call{nil, {}, lists()[0][:0]} {
		w := newTwin(t, 1, [][]calls.Call{none, none})
		w.nothing("there is no call")
		w.run(nil, api.OK)
	}
}
