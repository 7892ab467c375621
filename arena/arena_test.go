package arena

import (
	"math"
	"math/bits"
	"slices"
	"strings"
	"testing"

	"quietus/api"
)

// most and far are written out, so that the tests don't lean on the names that they hold.
const (
	most = 1024
	far  = 65536
)

// plain is what an arena has to be, told without a heap: each place by itself.
type plain struct {
	taken      []bool
	generation []uint64
	node       []Node
	fault      bool
}

// plainOf is a new arena of so many places.
func plainOf(room int) *plain {
	return &plain{taken: make([]bool, room), generation: make([]uint64, room), node: make([]Node, room)}
}

// handleOf is the handle of a place, of a generation.
func handleOf(place int, generation uint64) Handle {
	return Handle(generation)*far + Handle(place) + 1
}

// handle is the handle of a place, of the generation that it has.
func (p *plain) handle(place int) Handle { return handleOf(place, p.generation[place]) }

// spare is how many places are free.
func (p *plain) spare() int {
	n := 0
	for _, taken := range p.taken {
		if !taken {
			n++
		}
	}
	return n
}

// alloc takes the least place that is free.
func (p *plain) alloc(n Node) (Handle, api.Errno) {
	place := slices.Index(p.taken, false)
	if place < 0 {
		return 0, api.ErrFull
	}
	p.taken[place], p.node[place] = true, n
	return p.handle(place), api.OK
}

// find is the place of a handle that is live, else -1, gone over place by place.
func (p *plain) find(h Handle) int {
	for place := range p.taken {
		if p.taken[place] && p.handle(place) == h {
			return place
		}
	}
	return -1
}

// use is the place of a handle, and the error that its use has to have.
func (p *plain) use(h Handle) (int, api.Errno) {
	place := p.find(h)
	switch {
	case h == 0:
		p.fault = true
		return place, api.ErrNone
	case place < 0:
		p.fault = true
		return place, api.ErrStale
	}
	return place, api.OK
}

// free frees the place of a handle.
func (p *plain) free(h Handle) api.Errno {
	place, e := p.use(h)
	if e == api.OK {
		p.taken[place], p.node[place] = false, Node{}
		p.generation[place]++
	}
	return e
}

// link sets the Next of a handle's node.
func (p *plain) link(h, next Handle) api.Errno {
	place, e := p.use(h)
	if e == api.OK {
		p.node[place].Next = next
	}
	return e
}

// read is the node of a handle.
func (p *plain) read(h Handle) (Node, api.Errno) {
	place, e := p.use(h)
	if e != api.OK {
		return Node{}, e
	}
	return p.node[place], e
}

// both is an arena, and what it has to be.
type both struct {
	*Arena
	want *plain
}

// newBoth is a new arena.
func newBoth(t *testing.T, room int) both {
	t.Helper()
	a, e := New(room)
	if a == nil || e != api.OK {
		t.Fatalf("New(%d) = %v, %v", room, a, e)
	}
	return both{a, plainOf(room)}
}

// alloc takes a place of both.
func (b both) alloc(t *testing.T, n Node) Handle {
	t.Helper()
	want, wantErr := b.want.alloc(n)
	h, e := b.Alloc(n)
	if h != want || e != wantErr {
		t.Fatalf("Alloc = %d, %v, not %d, %v", h, e, want, wantErr)
	}
	return h
}

// free frees a place of both.
func (b both) free(t *testing.T, h Handle) {
	t.Helper()
	want := b.want.free(h)
	if e := b.Free(h); e != want {
		t.Fatalf("Free(%d) = %v, not %v", h, e, want)
	}
}

// link links a node of both.
func (b both) link(t *testing.T, h, next Handle) {
	t.Helper()
	want := b.want.link(h, next)
	if e := b.Link(h, next); e != want {
		t.Fatalf("Link(%d, %d) = %v, not %v", h, next, e, want)
	}
}

// read reads a node of both.
func (b both) read(t *testing.T, h Handle) {
	t.Helper()
	want, wantErr := b.want.read(h)
	if n, e := b.Read(h); n != want || e != wantErr {
		t.Fatalf("Read(%d) = %v, %v, not %v, %v", h, n, e, want, wantErr)
	}
}

// fill takes so many places, each for a node of its own.
func (b both) fill(t *testing.T, n int) {
	t.Helper()
	for range n {
		b.alloc(t, someNode(b.want.spare()))
	}
}

// check says whether the arena is what it has to be: its places, its nodes, its flag. It uses only handles that are live, so that the flag stays as it is.
func (b both) check(t *testing.T, what string) {
	t.Helper()
	if n, want := b.Room(), len(b.want.taken); n != want {
		t.Fatalf("%s: Room() = %d, not %d", what, n, want)
	}
	if n, want := b.Spare(), b.want.spare(); n != want {
		t.Fatalf("%s: Spare() = %d, not %d", what, n, want)
	}
	for place, taken := range b.want.taken {
		h := b.want.handle(place)
		if live := b.Live(h); live != taken {
			t.Fatalf("%s: Live(%d) = %v", what, h, live)
		}
		if !taken {
			continue
		}
		if n, e := b.Read(h); n != b.want.node[place] || e != api.OK {
			t.Fatalf("%s: Read(%d) = %v, %v, not %v", what, h, n, e, b.want.node[place])
		}
	}
	if up := b.Fault(); up != b.want.fault {
		t.Fatalf("%s: Fault() = %v", what, up)
	}
}

// someNode is one of many nodes, no two of them alike.
func someNode(i int) Node {
	return Node{Key: "k" + strings.Repeat("y", i), Val: strings.Repeat("v", i), Sum: uint32(i) * 2654435761, Next: Handle(i)}
}

// oddNodes are nodes at the ends: of empty and long texts, of bytes that are no runes, of great numbers.
func oddNodes() []Node {
	return []Node{
		{},
		{Key: "k"},
		{Val: "v"},
		{Sum: 1},
		{Next: 1},
		{Sum: math.MaxUint32, Next: math.MaxUint64},
		{Key: strings.Repeat("k", api.MaxKey+1), Val: strings.Repeat("v", 1<<16)},
		{Key: "\x00\xff\xc3", Val: "\xed\xa0\x80\x00", Sum: 1 << 31, Next: 1 << 63},
		{Key: "same", Val: "same"},
		{Key: "same", Val: "same"},
	}
}

// mixed is an arena with its flag down, with places of all kinds: of room 6, in place 0 a node of generation 0, in 1 one of generation 2, in 2 none, of generation 1, in 3 a node of generation 1, in 4 and 5 none, of generation 0.
func mixed(t *testing.T) both {
	t.Helper()
	b := newBoth(t, 6)
	b.fill(t, 4)
	for range 2 {
		b.free(t, b.want.handle(1))
		b.fill(t, 1)
	}
	b.free(t, b.want.handle(3))
	b.fill(t, 1)
	b.free(t, b.want.handle(2))
	b.check(t, "of all kinds")
	if b.Spare() != 3 || b.Fault() {
		t.Fatalf("of all kinds: Spare() = %d, Fault() = %v", b.Spare(), b.Fault())
	}
	return b
}

// strange are handles that were never answered, whatever arena it is.
func strange() []Handle {
	return []Handle{
		most + 1, most + 2, 2 * most, far - 1, far, far + most + 1, 2*far - 1, 2 * far, 3 * far, 1 << 31, 1<<31 + 1,
		1<<32 - 1, 1 << 32, 1<<32 + 1, 1<<32 + 2, 1 << 48, 1<<48 + 1, 1<<63 - 1, 1 << 63, 1<<63 + 1, 1<<63 + 2,
		math.MaxUint64, math.MaxUint64 - 1, math.MaxUint64 - far, math.MaxUint64 - far + 1, math.MaxUint64 - far + 2,
		math.MaxUint64 - far + 3,
	}
}

// stale are handles that are stale now: of elder generations, of places that are free, of generations that are yet to come, of places that aren't there, and such as have the low bits of one that is live.
func (b both) stale() []Handle {
	room := len(b.want.taken)
	all := strange()
	for place := range room + 3 {
		for generation := range uint64(6) {
			all = append(all, handleOf(place, generation))
		}
	}
	for place := range room {
		h := b.want.handle(place)
		for _, bit := range []int{16, 17, 24, 31, 32, 33, 40, 47, 48, 49, 62, 63} {
			all = append(all, h+1<<bit)
		}
		all = append(all, -h, h-far, ^h)
	}
	return slices.DeleteFunc(all, func(h Handle) bool { return h == 0 || b.want.find(h) >= 0 })
}

// wrongRooms are rooms that may not be, some of them such whose low bits alone would do.
func wrongRooms() []int {
	l := []int{
		0, -1, -2, -most, -most - 1, -far, math.MinInt32, math.MinInt, math.MinInt + 1,
		most + 1, most + 2, 2 * most, far - 1, far, far + 1, 1 << 20, math.MaxInt32, math.MaxInt, math.MaxInt - 1,
	}
	if bits.UintSize == 64 {
		high := 1 << (bits.UintSize / 2)
		l = append(l, high, high+1, high+most, -high, 1-high, most-high)
	}
	return l
}

// P4.1: New has so many places, all free, from one up to the limit, and its flag is down.
func TestNew(t *testing.T) {
	for _, room := range []int{1, 2, 3, 4, 7, 63, 64, 65, 255, 256, 1000, most - 1, most} {
		b := newBoth(t, room)
		b.check(t, "New")
		if b.Room() != room || b.Spare() != room || b.Fault() {
			t.Errorf("New(%d): Room() = %d, Spare() = %d, Fault() = %v", room, b.Room(), b.Spare(), b.Fault())
		}
	}
}

// P4.1: New of a room that isn't from 1 to 1024 is ErrRange, and nil.
func TestNewWrong(t *testing.T) {
	for _, room := range wrongRooms() {
		if a, e := New(room); a != nil || e != api.ErrRange {
			t.Errorf("New(%d) = %v, %v", room, a, e)
		}
	}
}

// R5: an arena hangs on what was done to it, not on what was done to others.
func TestNewApart(t *testing.T) {
	one, two := newBoth(t, 3), newBoth(t, 3)
	h := one.alloc(t, someNode(1))
	two.check(t, "the other one took nothing")
	two.fill(t, 2)
	two.free(t, h)
	two.read(t, h)
	one.link(t, h, 7)
	one.check(t, "the one")
	two.check(t, "the other one")
	if one.Fault() || !two.Fault() {
		t.Errorf("Fault() = %v of the one, %v of the other one", one.Fault(), two.Fault())
	}
}

// P4.1: the first handles are 1 and the place, from place 0 on, up to as many as there is room for; behind them it is full.
func TestAllocAll(t *testing.T) {
	for _, room := range []int{1, 2, 3, 64, most - 1, most} {
		b := newBoth(t, room)
		for place := range room {
			if h, e := b.Alloc(Node{}); h != Handle(place+1) || e != api.OK {
				t.Fatalf("of room %d Alloc for the place %d = %d, %v", room, place, h, e)
			}
			if b.Spare() != room-place-1 || b.Room() != room {
				t.Fatalf("of room %d, with %d taken: Spare() = %d, Room() = %d", room, place+1, b.Spare(), b.Room())
			}
		}
		for range 2 {
			if h, e := b.Alloc(Node{}); h != 0 || e != api.ErrFull {
				t.Errorf("of room %d, with none free: Alloc = %d, %v", room, h, e)
			}
		}
	}
}

// P4.1: Alloc when no place is free changes nothing, and leaves the flag as it is; with one place free that is taken.
func TestAllocFull(t *testing.T) {
	for _, room := range []int{1, 2, 5, most} {
		b := newBoth(t, room)
		b.fill(t, room)
		for _, n := range oddNodes() {
			if h, e := b.Alloc(n); h != 0 || e != api.ErrFull {
				t.Fatalf("Alloc when none is free = %d, %v", h, e)
			}
		}
		b.check(t, "Alloc when none is free")
		for _, place := range []int{room - 1, 0, room / 2} {
			b.free(t, b.want.handle(place))
			b.check(t, "Free when none is free")
			if h := b.alloc(t, someNode(9)); (h-1)%far != Handle(place) {
				t.Errorf("Alloc when the place %d alone is free = %d", place, h)
			}
			b.check(t, "Alloc when one is free")
			if h, e := b.Alloc(Node{}); h != 0 || e != api.ErrFull {
				t.Errorf("Alloc when none is free again = %d, %v", h, e)
			}
		}
		b.want.fault = true
		b.Read(0)
		if h, e := b.Alloc(Node{}); h != 0 || e != api.ErrFull {
			t.Errorf("Alloc when none is free, and the flag is up = %d, %v", h, e)
		}
		b.check(t, "Alloc when the flag is up")
	}
}

// P4.1: Read is the node that Alloc was handed, whatever it is, as often as it is asked.
func TestRead(t *testing.T) {
	b := newBoth(t, len(oddNodes())+1)
	for _, n := range oddNodes() {
		h := b.alloc(t, n)
		for range 2 {
			if got, e := b.Read(h); got != n || e != api.OK {
				t.Errorf("Read(%d) = %v, %v, not %v", h, got, e, n)
			}
		}
		b.check(t, "Read")
	}
}

// P4.1: Link sets the Next of that node alone, to any number, which isn't looked at.
func TestLink(t *testing.T) {
	b := mixed(t)
	nexts := slices.Concat([]Handle{0, 1, 2, b.want.handle(1)}, b.stale())
	for _, place := range []int{0, 1, 3} {
		h := b.want.handle(place)
		for _, next := range nexts {
			before := b.want.node[place]
			b.link(t, h, next)
			n, e := b.Read(h)
			if n != (Node{before.Key, before.Val, before.Sum, next}) || e != api.OK {
				t.Fatalf("behind Link(%d, %d): %v, %v", h, next, n, e)
			}
		}
		b.check(t, "Link")
	}
	if b.Fault() {
		t.Error("Link of handles that are live has the flag up")
	}
}

// P4.1: a node that was freed is gone: what comes into its place has nothing of it.
func TestFreeGone(t *testing.T) {
	b := newBoth(t, 2)
	h := b.alloc(t, Node{"k", "v", 7, 2})
	b.alloc(t, Node{"l", "w", 8, 1})
	b.link(t, h, 5)
	b.free(t, h)
	b.check(t, "Free")
	g := b.alloc(t, Node{})
	if n, e := b.Read(g); n != (Node{}) || e != api.OK {
		t.Errorf("Read(%d) = %v, %v", g, n, e)
	}
	b.check(t, "Alloc behind Free")
}

// The example of the chapter: the place 0 again, of the generation 1.
func TestExample(t *testing.T) {
	b := newBoth(t, 2)
	first := b.alloc(t, Node{})
	second := b.alloc(t, Node{})
	b.free(t, first)
	if third := b.alloc(t, Node{}); first != 1 || second != 2 || third != 65537 {
		t.Errorf("the handles are %d, %d, %d", first, second, third)
	}
}

// P4.1, P4.2: a place that is taken and freed again and again has each time one generation more, beyond 16 bits.
func TestGenerations(t *testing.T) {
	for _, room := range []int{1, 3} {
		b := newBoth(t, room)
		b.fill(t, room-1)
		for generation := range uint64(70000) {
			h, e := b.Alloc(Node{})
			if want := handleOf(room-1, generation); h != want || e != api.OK {
				t.Fatalf("Alloc of the generation %d = %d, %v, not %d", generation, h, e, want)
			}
			if !b.Live(h) || b.Live(h-far) || b.Live(h+far) || b.Spare() != 0 {
				t.Fatalf("of the handle %d: Live = %v, of its elder one %v, of its next one %v", h, b.Live(h), b.Live(h-far), b.Live(h+far))
			}
			if e := b.Free(h); e != api.OK || b.Live(h) || b.Spare() != 1 {
				t.Fatalf("Free(%d) = %v, Live = %v, Spare() = %d", h, e, b.Live(h), b.Spare())
			}
		}
		if b.Fault() {
			t.Error("the flag is up")
		}
		if e := b.Free(handleOf(room-1, 0)); e != api.ErrStale || !b.Fault() {
			t.Errorf("Free of the first handle = %v, Fault() = %v", e, b.Fault())
		}
	}
}

// eachOrder does f for each order of the numbers below n.
func eachOrder(n int, f func([]int)) {
	var grow func(order []int)
	grow = func(order []int) {
		if len(order) == n {
			f(order)
			return
		}
		for i := range n {
			if !slices.Contains(order, i) {
				grow(append(order, i))
			}
		}
	}
	grow(make([]int, 0, n))
}

// P4.1: the least free place is taken, in whatever order however many were freed.
func TestLeastFree(t *testing.T) {
	const room = 6
	eachOrder(room, func(order []int) {
		for n := 1; n <= room; n++ {
			b := newBoth(t, room)
			b.fill(t, room)
			for _, place := range order[:n] {
				b.free(t, b.want.handle(place))
			}
			for _, place := range slices.Sorted(slices.Values(order[:n])) {
				if h := b.alloc(t, someNode(place)); h != handleOf(place, 1) {
					t.Fatalf("freed %v, Alloc = %d, not of the place %d", order[:n], h, place)
				}
			}
			b.check(t, "in whatever order")
		}
	})
}

// P4.1: the least free place is taken, of as many places as there may be, freed by strides, and some of them taken in between.
func TestLeastFreeOfMost(t *testing.T) {
	for _, step := range []int{1, 3, 341, 513, 1023} {
		b := newBoth(t, most)
		b.fill(t, most)
		for k := range most {
			b.free(t, b.want.handle(k*step%most))
			if k%5 == 0 {
				b.alloc(t, someNode(1))
			}
		}
		b.check(t, "freed by strides")
		b.fill(t, b.Spare())
		b.check(t, "taken again")
		if b.Spare() != 0 {
			t.Errorf("Spare() = %d", b.Spare())
		}
	}
}

// checkUse says whether a handle's use by Read, Link and Free, each of an arena of its own, has this error, has the flag up, and changes nothing else.
func checkUse(t *testing.T, h Handle, want api.Errno) {
	t.Helper()
	b := mixed(t)
	if n, e := b.Read(h); n != (Node{}) || e != want {
		t.Errorf("Read(%d) = %v, %v, not %v", h, n, e, want)
	}
	b.want.fault = true
	b.check(t, "Read")
	for _, next := range []Handle{0, 1, 99, h} {
		b = mixed(t)
		if e := b.Link(h, next); e != want {
			t.Errorf("Link(%d, %d) = %v, not %v", h, next, e, want)
		}
		b.want.fault = true
		b.check(t, "Link")
	}
	b = mixed(t)
	if e := b.Free(h); e != want {
		t.Errorf("Free(%d) = %v, not %v", h, e, want)
	}
	b.want.fault = true
	b.check(t, "Free")
	b.fill(t, 3)
	b.check(t, "Alloc behind a wrong Free")
}

// P4.1: of 0 Read, Link and Free are ErrNone, and the flag is up.
func TestUseNone(t *testing.T) {
	checkUse(t, 0, api.ErrNone)
}

// P4.1: of each handle that is stale Read, Link and Free are ErrStale, and the flag is up.
func TestUseStale(t *testing.T) {
	b := mixed(t)
	for _, h := range b.stale() {
		checkUse(t, h, api.ErrStale)
	}
	// Of all kinds one by one, so that none of them is missed by stale itself.
	for _, h := range []Handle{far + 1, 3*far + 1, 2, far + 2, 3*far + 2, 3, far + 3, 2*far + 3, 4, 5, far + 5, 7, far + 7, far, math.MaxUint64} {
		checkUse(t, h, api.ErrStale)
	}
}

// P4.1: of handles that are live Read, Link and Free are OK, and the flag stays down.
func TestUseLive(t *testing.T) {
	b := mixed(t)
	for _, h := range []Handle{1, 2*far + 2, far + 4} {
		b.read(t, h)
		b.link(t, h, h)
		b.read(t, h)
		b.free(t, h)
		b.check(t, "Free of a live one")
	}
	if b.Spare() != 6 || b.Fault() {
		t.Errorf("Spare() = %d, Fault() = %v", b.Spare(), b.Fault())
	}
}

// P4.1: Live is true just of handles that are neither 0 nor stale, and leaves the flag as it is, down or up.
func TestLive(t *testing.T) {
	b := mixed(t)
	for _, up := range []bool{false, true} {
		for _, h := range []Handle{1, 2*far + 2, far + 4} {
			if !b.Live(h) {
				t.Errorf("Live(%d) = false", h)
			}
		}
		for _, h := range append(b.stale(), 0) {
			if b.Live(h) {
				t.Errorf("Live(%d) = true", h)
			}
			if b.Fault() != up {
				t.Fatalf("behind Live(%d) Fault() = %v", h, b.Fault())
			}
		}
		b.check(t, "Live")
		b.read(t, 0)
	}
}

// P4.1: a handle that is yet to come is stale till it is answered, then live, then stale for good.
func TestYetToCome(t *testing.T) {
	b := newBoth(t, 2)
	for _, h := range []Handle{1, far + 1, 2*far + 1, 3*far + 1} {
		if b.Live(h) {
			t.Errorf("Live(%d), yet to come", h)
		}
		if got := b.alloc(t, Node{}); got != h || !b.Live(h) {
			t.Fatalf("Alloc = %d, not %d", got, h)
		}
		b.free(t, h)
		if b.Live(h) {
			t.Errorf("Live(%d), freed", h)
		}
	}
	b.check(t, "yet to come")
}

// P4.1: the flag, once up, stays up, whatever right calls follow, and changes nothing of what they answer.
func TestFaultForGood(t *testing.T) {
	wrongs := []func(b both){
		func(b both) { b.Read(0) },
		func(b both) { b.Link(0, 1) },
		func(b both) { b.Free(0) },
		func(b both) { b.Read(3) },
		func(b both) { b.Link(3, 1) },
		func(b both) { b.Free(3) },
	}
	for i, wrong := range wrongs {
		b := mixed(t)
		wrong(b)
		b.want.fault = true
		b.check(t, "a wrong use")
		b.read(t, 1)
		b.link(t, 1, 2)
		b.fill(t, 3)
		b.check(t, "right calls")
		for place := range 6 {
			b.free(t, b.want.handle(place))
		}
		b.fill(t, 6)
		b.check(t, "all freed, and taken again")
		if !b.Fault() {
			t.Errorf("wrong use %d: the flag is down again", i)
		}
	}
}

// P4.1: no right call has the flag up: not Free of the last one, not Alloc when none is free, nor those that only ask.
func TestFaultDown(t *testing.T) {
	b := newBoth(t, 2)
	for range 3 {
		h := b.alloc(t, Node{Next: 77})
		g := b.alloc(t, Node{Next: h})
		b.alloc(t, Node{})
		b.link(t, g, 1<<40)
		b.link(t, h, 0)
		b.free(t, h)
		b.free(t, g)
		b.Live(h)
		b.Live(0)
		b.Room()
		b.Spare()
		b.check(t, "right calls")
	}
	if b.Fault() {
		t.Error("the flag is up")
	}
}

// P4.2: a handle that was freed is stale for good, and freed once alone.
func TestFreeTwice(t *testing.T) {
	b := newBoth(t, 3)
	b.fill(t, 3)
	b.free(t, 2)
	if e := b.Free(2); e != api.ErrStale || !b.Fault() || b.Spare() != 1 {
		t.Fatalf("Free of what was freed = %v, Fault() = %v, Spare() = %d", e, b.Fault(), b.Spare())
	}
	b.want.fault = true
	b.check(t, "freed twice")
	if h := b.alloc(t, someNode(5)); h != far+2 {
		t.Errorf("Alloc behind = %d", h)
	}
	if e := b.Free(2); e != api.ErrStale || b.Spare() != 0 {
		t.Errorf("Free of an elder one = %v, Spare() = %d", e, b.Spare())
	}
	b.check(t, "an elder one freed")
}

// P4.1, P4.2: a long row of calls of several rooms: each answers what it has to, no handle is answered twice, and those that are stale stay so. The flag, once up, stays so: so wrong uses come in the row's second half alone.
func TestRow(t *testing.T) {
	const half = 3000
	for _, room := range []int{1, 2, 7, 33} {
		b := newBoth(t, room)
		pick := uint32(room)
		next := func(n int) int {
			pick = pick*1664525 + 1013904223
			return int(pick>>8) % n
		}
		var told []Handle
		seen := map[Handle]bool{}
		for i := range 2 * half {
			h := Handle(next(room+3) + far*next(3))
			if len(told) > 0 && next(8) > 0 {
				h = told[len(told)-1-next(min(len(told), 2*room))]
			}
			kind := next(5)
			if i < half && b.want.find(h) < 0 {
				kind = 0
			}
			switch kind {
			case 0, 1:
				if g := b.alloc(t, someNode(i%50)); g != 0 {
					if seen[g] {
						t.Fatalf("the handle %d is answered twice", g)
					}
					seen[g] = true
					told = append(told, g)
				}
			case 2:
				b.free(t, h)
			case 3:
				b.link(t, h, Handle(next(99)))
			case 4:
				b.read(t, h)
			}
			b.check(t, "a row of calls")
			if i < half && b.Fault() {
				t.Fatal("the flag is up ahead of all wrong uses")
			}
		}
		b.checkTold(t, told)
		if len(told) < 200 || !b.Fault() {
			t.Errorf("of room %d: %d handles, Fault() = %v", room, len(told), b.Fault())
		}
	}
}

// checkTold says whether of all handles that were answered just those are live that were not freed.
func (b both) checkTold(t *testing.T, told []Handle) {
	t.Helper()
	live := 0
	for _, h := range told {
		if b.Live(h) != (b.want.find(h) >= 0) {
			t.Errorf("Live(%d) = %v", h, b.Live(h))
		}
		if b.Live(h) {
			live++
		}
	}
	if live != b.Room()-b.Spare() {
		t.Errorf("%d handles are live, of %d places, of which %d are free", live, b.Room(), b.Spare())
	}
}
