package mem

import (
	"fmt"
	"math"
	"math/bits"
	"slices"
	"testing"

	"quietus/api"
	"quietus/arena"
	"quietus/cells"
	"quietus/locks"
)

// These are written out, so that the tests don't lean on the names that they hold.
const (
	mostWorkers = 8
	mostRoom    = 1024
	mostBuckets = 65536
	mostCells   = 1048576
	lockCount   = 6
)

// far is how far apart the handles of one place are, from one generation to the next.
const far = 65536

// newMem is a new memory.
func newMem(t *testing.T, room, workers int) *Mem {
	t.Helper()
	m, e := New(room, workers)
	if m == nil || e != api.OK {
		t.Fatalf("New(%d, %d) = %v, %v", room, workers, m, e)
	}
	return m
}

// table makes a table that has to be had.
func (m *Mem) table(t *testing.T, n int) int {
	t.Helper()
	i, e := m.Table(n)
	if e != api.OK {
		t.Fatalf("Table(%d) = %d, %v", n, i, e)
	}
	return i
}

// node takes a node with this Next.
func (m *Mem) node(t *testing.T, next arena.Handle) arena.Handle {
	t.Helper()
	h, e := m.Arena.Alloc(arena.Node{Next: next})
	if e != api.OK {
		t.Fatalf("Alloc = %d, %v", h, e)
	}
	return h
}

// link sets a node's Next.
func (m *Mem) link(t *testing.T, h, next arena.Handle) {
	t.Helper()
	if e := m.Arena.Link(h, next); e != api.OK {
		t.Fatalf("Link(%d, %d) = %v", h, next, e)
	}
}

// drop frees a node.
func (m *Mem) drop(t *testing.T, h arena.Handle) {
	t.Helper()
	if e := m.Arena.Free(h); e != api.OK {
		t.Fatalf("Free(%d) = %v", h, e)
	}
}

// put has a bucket of the table that counts begin with a handle.
func (m *Mem) put(t *testing.T, bucket int, h arena.Handle) {
	t.Helper()
	if e := m.Cells.Store(m.Now().Base+bucket, uint64(h)); e != api.OK {
		t.Fatalf("Store for the bucket %d = %v", bucket, e)
	}
}

// seen is all that is to be seen of a memory.
type seen struct {
	workers, waiting, room, spare int
	fault                         bool
	words                         []uint64
	holders                       []int
	tables                        []Desc
	now                           Desc
	reach                         []arena.Handle
}

// look looks at all that is to be seen of a memory, without taking what waits.
func look(m *Mem) seen {
	s := seen{workers: m.Workers(), waiting: m.Waiting(), room: m.Arena.Room(), spare: m.Arena.Spare(), fault: m.Arena.Fault(), now: m.Now(), reach: m.Reach()}
	for i := range m.Cells.Len() {
		word, _ := m.Cells.Load(i)
		s.words = append(s.words, word)
	}
	for i := range m.Locks.Len() {
		s.holders = append(s.holders, m.Locks.Holder(i))
	}
	for i := 0; ; i++ {
		d, ok := m.Desc(i)
		if !ok {
			return s
		}
		s.tables = append(s.tables, d)
	}
}

// String tells it, of a great many cells just the first ones.
func (s seen) String() string {
	return fmt.Sprint(s.workers, s.waiting, s.room, s.spare, s.fault, s.words[:min(len(s.words), 50)], s.holders, s.tables, s.now, s.reach)
}

// same says whether two looks saw the same.
func (s seen) same(o seen) bool {
	return s.workers == o.workers && s.waiting == o.waiting && s.room == o.room && s.spare == o.spare && s.fault == o.fault &&
		slices.Equal(s.words, o.words) && slices.Equal(s.holders, o.holders) && slices.Equal(s.tables, o.tables) &&
		s.now == o.now && slices.Equal(s.reach, o.reach)
}

// checkSame says whether a memory is as it was.
func checkSame(t *testing.T, m *Mem, before seen, what string) {
	t.Helper()
	if behind := look(m); !behind.same(before) {
		t.Errorf("%s: %s, not %s", what, behind, before)
	}
}

// checkChain says whether a bucket's chain is this one.
func checkChain(t *testing.T, m *Mem, bucket int, want ...arena.Handle) {
	t.Helper()
	if c := m.Chain(bucket); !slices.Equal(c, want) {
		t.Errorf("Chain(%d) = %v, not %v", bucket, c, want)
	}
}

// checkReach says whether these handles are reached, and the arena's flag is down.
func checkReach(t *testing.T, m *Mem, want ...arena.Handle) {
	t.Helper()
	if l := m.Reach(); !slices.Equal(l, want) {
		t.Errorf("Reach() = %v, not %v", l, want)
	}
	if m.Arena.Fault() {
		t.Error("the arena's flag is up")
	}
}

// wrongInts are numbers below 0, and far above all limits, some of them such whose low bits alone would do.
func wrongInts() []int {
	l := []int{
		-1, -2, -3, -8, -1024, -65536, math.MinInt32, math.MinInt, math.MinInt + 1, math.MinInt + 2,
		mostCells + 1, math.MaxInt32, math.MaxInt, math.MaxInt - 1,
	}
	if bits.UintSize == 64 {
		high := 1 << (bits.UintSize / 2)
		l = append(l, high, high+1, high+2, high+4, -high, 1-high, 2-high)
	}
	return l
}

// great are words of which no table's number is one, some of them such whose low bits alone would do.
func great() []uint64 {
	return []uint64{
		1 << 16, 1<<16 + 1, 1 << 31, 1<<31 + 1, 1<<32 - 1, 1 << 32, 1<<32 + 1, 1<<32 + 2, 1 << 62, 1<<63 - 1,
		1 << 63, 1<<63 + 1, math.MaxUint64 - 1, math.MaxUint64,
	}
}

// The numbers of cells and locks are those that the chapter names.
func TestNumbers(t *testing.T) {
	if l := []int{Period, Current, PeriodLock, ResizeLock}; !slices.Equal(l, []int{0, 1, 0, 5}) {
		t.Errorf("Period, Current, PeriodLock and ResizeLock are %v", l)
	}
}

// P5.1: a new memory has its workers, its cells, its locks, its arena, one table of one bucket, and nobody who waits.
func TestNew(t *testing.T) {
	for workers := 1; workers <= mostWorkers; workers++ {
		for _, room := range []int{1, 2, 64, mostRoom - 1, mostRoom} {
			want := seen{workers: workers, room: room, spare: room, words: make([]uint64, 2+workers+1)}
			want.words[0] = 1
			for range lockCount {
				want.holders = append(want.holders, -1)
			}
			want.now = Desc{N: 1, Base: 2 + workers}
			want.tables = []Desc{want.now}
			m := newMem(t, room, workers)
			checkSame(t, m, want, "New")
			checkChain(t, m, 0)
			if l := m.Take(); len(l) != 0 {
				t.Errorf("New(%d, %d): Take() = %v", room, workers, l)
			}
		}
	}
}

// P5.1: New is nil, and ErrRange, of too few or too many workers, of a room that may not be, and of both.
func TestNewWrong(t *testing.T) {
	workers := append(wrongInts(), 0, mostWorkers+1, mostWorkers+2, 64, 256, 1<<16, 1<<16+1)
	rooms := append(wrongInts(), 0, mostRoom+1, mostRoom+2, 1<<16, 1<<16+1, mostCells)
	wrong := func(room, workers int) {
		if m, e := New(room, workers); m != nil || e != api.ErrRange {
			t.Errorf("New(%d, %d) = %v, %v", room, workers, m, e)
		}
	}
	for _, n := range workers {
		wrong(1, n)
		wrong(mostRoom, n)
		for _, room := range rooms {
			wrong(room, n)
		}
	}
	for _, room := range rooms {
		wrong(room, 1)
		wrong(room, mostWorkers)
	}
}

// R5: a memory hangs on what was done to it, not on what was done to others.
func TestNewApart(t *testing.T) {
	one, two := newMem(t, 2, 2), newMem(t, 2, 2)
	before := look(two)
	one.put(t, 0, one.node(t, 0))
	one.table(t, 2)
	one.Cells.Add(Period, 1)
	one.Cells.Store(Current, 1)
	one.Locks.Try(ResizeLock, 1)
	one.Retire(1)
	one.Arena.Free(99)
	checkSame(t, two, before, "the other memory")
	two.Retire(2)
	two.Retire(3)
	if l := one.Take(); !slices.Equal(l, []arena.Handle{1}) || two.Waiting() != 2 {
		t.Errorf("Take() = %v of the one, Waiting() = %d of the other", l, two.Waiting())
	}
}

// P5.1: a worker's counter is cell 2 and its number, a cell of its own ahead of table 0.
func TestCounter(t *testing.T) {
	for worker, want := range []int{2, 3, 4, 5, 6, 7, 8, 9} {
		if n := Counter(worker); n != want {
			t.Errorf("Counter(%d) = %d, not %d", worker, n, want)
		}
	}
	for workers := 1; workers <= mostWorkers; workers++ {
		if last, base := Counter(workers-1), newMem(t, 1, workers).Now().Base; last+1 != base {
			t.Errorf("of %d workers the last counter is %d, table 0 begins at %d", workers, last, base)
		}
	}
}

// P5.1: the writers' lock is 1, and the sum's bucket modulo 4, for each number of buckets that may be.
func TestWriterLock(t *testing.T) {
	sums := []uint32{0, 1, 2, 3, 4, 5, 6, 7, 8, 65535, 65536, 65537, 65539, 0xe40c292c, 1 << 31, 1<<31 + 3, math.MaxUint32, math.MaxUint32 - 1}
	for _, sum := range sums {
		for n := 1; n <= mostBuckets; n *= 2 {
			want := []int{1, 2, 3, 4}[sum&uint32(n-1)&3]
			if l := WriterLock(sum, n); l != want {
				t.Errorf("WriterLock(%d, %d) = %d, not %d", sum, n, l, want)
			}
		}
	}
}

// P5.1: of a number of buckets that may not be the sum's bucket is 0 (layer 1), so the lock is 1.
func TestWriterLockWrong(t *testing.T) {
	for _, n := range append(wrongInts(), 0, 3, 5, 6, 7, 12, mostBuckets-1, mostBuckets+1, 2*mostBuckets, mostCells) {
		for _, sum := range []uint32{0, 1, 2, 3, 7, math.MaxUint32} {
			if l := WriterLock(sum, n); l != 1 {
				t.Errorf("WriterLock(%d, %d) = %d", sum, n, l)
			}
		}
	}
}

// P5.1: each table comes behind those that there are, its cells 0, behind all cells; the table that counts stays the same.
func TestTable(t *testing.T) {
	m := newMem(t, 4, 3)
	m.put(t, 0, m.node(t, 0))
	want := look(m)
	for n := 1; n <= mostBuckets; n *= 2 {
		i, e := m.Table(n)
		if i != len(want.tables) || e != api.OK {
			t.Fatalf("Table(%d) = %d, %v", n, i, e)
		}
		want.tables = append(want.tables, Desc{N: n, Base: len(want.words)})
		want.words = append(want.words, make([]uint64, n)...)
		checkSame(t, m, want, "Table")
	}
}

// P5.1: a table's cells are a row of their own, even if others had the cells grow.
func TestTableApart(t *testing.T) {
	m := newMem(t, 1, 1)
	m.Cells.Grow(3)
	m.Cells.Store(6, math.MaxUint64)
	i := m.table(t, 2)
	if d, ok := m.Desc(i); !ok || d != (Desc{N: 2, Base: 7}) || m.Cells.Len() != 9 {
		t.Errorf("Desc(%d) = %v, %v, of %d cells", i, d, ok, m.Cells.Len())
	}
}

// P5.1: Table of a number that is no power of two from 1 to 65536 is -1, and ErrSize; nothing is changed.
func TestTableSize(t *testing.T) {
	m := newMem(t, 4, 2)
	m.table(t, 4)
	m.put(t, 0, m.node(t, 0))
	before := look(m)
	for _, n := range append(wrongInts(), 0, 3, 5, 6, 7, 9, 12, 1023, 1025, mostBuckets-1, mostBuckets+1, 2*mostBuckets, mostCells, 1<<30, -4) {
		if i, e := m.Table(n); i != -1 || e != api.ErrSize {
			t.Errorf("Table(%d) = %d, %v", n, i, e)
		}
	}
	checkSame(t, m, before, "Table of wrong numbers")
}

// P5.1: where there would be too many cells Table is -1, and ErrRange, ErrSize first, and nothing is changed; as many as there may be are had.
func TestTableFull(t *testing.T) {
	m := newMem(t, 4, 8)
	for m.Cells.Len()+mostBuckets <= mostCells {
		m.table(t, mostBuckets)
	}
	before := look(m)
	for range 2 {
		if i, e := m.Table(mostBuckets); i != -1 || e != api.ErrRange {
			t.Errorf("Table(%d), with %d cells = %d, %v", mostBuckets, m.Cells.Len(), i, e)
		}
	}
	checkSame(t, m, before, "Table of too many")
	for n := mostBuckets / 2; n >= 1; n /= 2 {
		for m.Cells.Len()+n <= mostCells {
			m.table(t, n)
		}
	}
	before = look(m)
	if len(before.words) != mostCells {
		t.Fatalf("there are %d cells", len(before.words))
	}
	for n := 1; n <= mostBuckets; n *= 2 {
		if i, e := m.Table(n); i != -1 || e != api.ErrRange {
			t.Errorf("Table(%d), with all cells = %d, %v", n, i, e)
		}
	}
	for _, n := range []int{0, -1, 3, mostBuckets + 1, 2 * mostBuckets, math.MaxInt, math.MinInt} {
		if i, e := m.Table(n); i != -1 || e != api.ErrSize {
			t.Errorf("Table(%d), with all cells = %d, %v", n, i, e)
		}
	}
	checkSame(t, m, before, "Table with all cells")
}

// P5.1: Desc is a table, and true; the zero one, and false, of a number that no table has.
func TestDesc(t *testing.T) {
	m := newMem(t, 1, 1)
	for n, want := range []Desc{{1, 3}, {2, 4}, {2, 6}, {8, 8}} {
		if n > 0 {
			if d, ok := m.Desc(n); d != (Desc{}) || ok {
				t.Errorf("Desc(%d), yet to come = %v, %v", n, d, ok)
			}
			m.table(t, want.N)
		}
		if d, ok := m.Desc(n); d != want || !ok {
			t.Errorf("Desc(%d) = %v, %v, not %v", n, d, ok, want)
		}
	}
	for _, i := range append(wrongInts(), 4, 5, 6, 65536, mostCells) {
		if d, ok := m.Desc(i); d != (Desc{}) || ok {
			t.Errorf("Desc(%d) = %v, %v", i, d, ok)
		}
	}
}

// P5.1: Now is the table that cell 1 tells; the zero one, if there is none, however great the number is.
func TestNow(t *testing.T) {
	m := newMem(t, 4, 2)
	want := []Desc{{1, 4}, {4, 5}, {2, 9}}
	m.table(t, 4)
	m.table(t, 2)
	for _, i := range []int{2, 0, 1, 1, 2, 0} {
		m.Cells.Store(Current, uint64(i))
		if d := m.Now(); d != want[i] {
			t.Errorf("with %d in cell 1: Now() = %v, not %v", i, d, want[i])
		}
	}
	a := m.node(t, 0)
	m.put(t, 0, a)
	for _, word := range append(great(), 3, 4, 5) {
		m.Cells.Store(Current, word)
		if d := m.Now(); d != (Desc{}) {
			t.Errorf("with %d in cell 1: Now() = %v", word, d)
		}
		checkChain(t, m, 0)
		checkReach(t, m)
	}
	m.Cells.Store(Current, 0)
	checkReach(t, m, a)
}

// P5.1: where there is no cell 1, no table counts.
func TestNowNoCell(t *testing.T) {
	m := newMem(t, 1, 1)
	m.put(t, 0, m.node(t, 0))
	m.Cells, _ = cells.New(1)
	if d := m.Now(); d != (Desc{}) {
		t.Errorf("Now() = %v", d)
	}
	checkChain(t, m, 0)
	checkReach(t, m)
}

// P5.2: a chain is the handles of one bucket, in order, up to 0; none of a bucket that isn't there.
func TestChain(t *testing.T) {
	m := newMem(t, 8, 2)
	m.Cells.Store(Current, uint64(m.table(t, 4)))
	a := m.node(t, 0)
	b := m.node(t, a)
	c := m.node(t, b)
	d := m.node(t, 0)
	m.put(t, 0, c)
	m.put(t, 3, d)
	before := look(m)
	for range 2 {
		checkChain(t, m, 0, c, b, a)
		checkChain(t, m, 1)
		checkChain(t, m, 2)
		checkChain(t, m, 3, d)
		for _, bucket := range append(wrongInts(), 4, 5, 6, 7, 8, 1024, 65536, mostCells) {
			checkChain(t, m, bucket)
		}
		checkReach(t, m, c, b, a, d)
	}
	checkSame(t, m, before, "Chain and Reach")
}

// P5.2: chains are those of the table that counts, of no other one.
func TestChainOfNow(t *testing.T) {
	m := newMem(t, 4, 1)
	one, two := m.node(t, 0), m.node(t, 0)
	m.put(t, 0, one)
	m.table(t, 2)
	m.Cells.Store(Current, 1)
	checkReach(t, m)
	m.put(t, 1, two)
	checkChain(t, m, 0)
	checkChain(t, m, 1, two)
	checkReach(t, m, two)
	m.Cells.Store(Current, 0)
	checkChain(t, m, 0, one)
	checkChain(t, m, 1)
	checkReach(t, m, one)
}

// P5.2: a chain ends at a handle that is stale, whatever it is, in the cell or in a node, and the arena's flag stays down.
func TestChainStale(t *testing.T) {
	m := newMem(t, 4, 1)
	a := m.node(t, 0)
	b := m.node(t, a)
	gone := m.node(t, a)
	m.drop(t, gone)
	stale := []arena.Handle{
		gone, 4, 5, 6, mostRoom, mostRoom + 1, far - 1, far, far + 1, far + gone, far + gone + far, 1 << 31, 1<<32 + a, 1<<48 + a,
		1<<63 - 1, 1 << 63, 1<<63 + a, math.MaxUint64, math.MaxUint64 - 1, math.MaxUint64 - far + 1, math.MaxUint64 - far + 2,
	}
	for _, h := range append(stale, 0) {
		m.put(t, 0, h)
		checkChain(t, m, 0)
		checkReach(t, m)
		m.put(t, 0, b)
		m.link(t, b, h)
		checkChain(t, m, 0, b)
		checkReach(t, m, b)
		m.link(t, b, a)
		m.link(t, a, h)
		checkChain(t, m, 0, b, a)
		checkReach(t, m, b, a)
	}
}

// P5.2: a chain begins with whatever generation its node has, and ends where that one is freed.
func TestChainGenerations(t *testing.T) {
	m := newMem(t, 1, 1)
	for generation := range arena.Handle(5) {
		h := m.node(t, 0)
		if h != generation*far+1 {
			t.Fatalf("the handle is %d", h)
		}
		checkReach(t, m)
		m.put(t, 0, h)
		checkReach(t, m, h)
		m.drop(t, h)
		checkReach(t, m)
	}
}

// P5.2: a chain ends at a handle that was met already: at itself, at its first one, at one in between.
func TestChainRound(t *testing.T) {
	const n = 5
	for back := range n {
		m := newMem(t, n, 1)
		var want []arena.Handle
		for i := range n {
			h := m.node(t, 0)
			if i > 0 {
				m.link(t, want[i-1], h)
			}
			want = append(want, h)
		}
		m.link(t, want[n-1], want[back])
		m.put(t, 0, want[0])
		checkChain(t, m, 0, want...)
		checkReach(t, m, want...)
		m.put(t, 0, want[n-1])
		checkChain(t, m, 0, slices.Concat(want[n-1:], want[back:n-1])...)
	}
}

// P5.2: a chain may have as many nodes as there may be, and not be round, or be so.
func TestChainMost(t *testing.T) {
	m := newMem(t, mostRoom, 1)
	var want []arena.Handle
	h := arena.Handle(0)
	for range mostRoom {
		h = m.node(t, h)
		want = append([]arena.Handle{h}, want...)
	}
	m.put(t, 0, h)
	checkChain(t, m, 0, want...)
	m.link(t, want[mostRoom-1], h)
	checkChain(t, m, 0, want...)
	checkReach(t, m, want...)
}

// P5.2: a node in two chains is in both of them, and reached as it is first met.
func TestTwoChains(t *testing.T) {
	m := newMem(t, 8, 2)
	m.Cells.Store(Current, uint64(m.table(t, 4)))
	tail := m.node(t, 0)
	mid := m.node(t, tail)
	a, b, c := m.node(t, mid), m.node(t, tail), m.node(t, mid)
	m.put(t, 0, b)
	m.put(t, 1, a)
	m.put(t, 2, c)
	m.put(t, 3, mid)
	checkChain(t, m, 0, b, tail)
	checkChain(t, m, 1, a, mid, tail)
	checkChain(t, m, 2, c, mid, tail)
	checkChain(t, m, 3, mid, tail)
	checkReach(t, m, b, tail, a, mid, c)
	// Round from one chain into the other, and back.
	m.link(t, tail, c)
	checkChain(t, m, 0, b, tail, c, mid)
	checkChain(t, m, 1, a, mid, tail, c)
	checkChain(t, m, 2, c, mid, tail)
	checkReach(t, m, b, tail, c, mid, a)
}

// P5.2: of many buckets nodes are reached bucket by bucket, the first one and the last one, too.
func TestReach(t *testing.T) {
	m := newMem(t, mostRoom, 2)
	m.Cells.Store(Current, uint64(m.table(t, mostBuckets)))
	var want []arena.Handle
	for bucket := mostBuckets - 1; bucket >= 0; bucket -= 257 {
		behind := m.node(t, 0)
		h := m.node(t, behind)
		m.put(t, bucket, h)
		want = append([]arena.Handle{h, behind}, want...)
	}
	if first := m.Chain(0); len(first) != 2 {
		t.Fatalf("Chain(0) = %v", first)
	}
	checkChain(t, m, mostBuckets-1, want[len(want)-2:]...)
	checkChain(t, m, mostBuckets)
	checkReach(t, m, want...)
}

// P5.2: with the flag up, it stays up, and the chains are the same.
func TestChainFault(t *testing.T) {
	m := newMem(t, 2, 1)
	a := m.node(t, 0)
	m.put(t, 0, m.node(t, a))
	m.Arena.Read(0)
	checkChain(t, m, 0, 2, 1)
	if l := m.Reach(); !slices.Equal(l, []arena.Handle{2, 1}) || !m.Arena.Fault() {
		t.Errorf("Reach() = %v, Fault() = %v", l, m.Arena.Fault())
	}
}

// R3: what Chain and Reach hand out is new memory, each time.
func TestChainNew(t *testing.T) {
	m := newMem(t, 4, 1)
	m.put(t, 0, m.node(t, m.node(t, 0)))
	for _, ask := range []func() []arena.Handle{func() []arena.Handle { return m.Chain(0) }, m.Reach} {
		l := ask()
		other := ask()
		for i := range l {
			l[i] = 99
		}
		_ = append(l[:0], 77, 77)
		if !slices.Equal(other, []arena.Handle{2, 1}) || !slices.Equal(ask(), []arena.Handle{2, 1}) {
			t.Errorf("behind a change of what was handed out: %v, %v", other, ask())
		}
	}
}

// P5.3: those that wait are told in the order in which they came, as often as they came, whatever they are; then none waits, and again others come.
func TestRetire(t *testing.T) {
	m := newMem(t, 4, 2)
	a := m.node(t, 0)
	rows := [][]arena.Handle{
		{a}, {3, 1, 2}, {}, {7, 7, 0, 7}, {math.MaxUint64, 1 << 63, far + 1, 0, a}, {a}, {},
	}
	for _, row := range rows {
		for i, h := range row {
			m.Retire(h)
			if n := m.Waiting(); n != i+1 {
				t.Fatalf("of %v: behind %d that came Waiting() = %d", row, i+1, n)
			}
		}
		for range 2 {
			if n := m.Waiting(); n != len(row) {
				t.Fatalf("of %v: Waiting() = %d", row, n)
			}
		}
		if l := m.Take(); !slices.Equal(l, row) {
			t.Errorf("Take() = %v, not %v", l, row)
		}
		if n := m.Waiting(); n != 0 {
			t.Errorf("behind Take Waiting() = %d", n)
		}
		if l := m.Take(); len(l) != 0 {
			t.Errorf("Take() behind Take = %v", l)
		}
	}
	if !m.Arena.Live(a) || m.Arena.Fault() || m.Arena.Spare() != 3 {
		t.Errorf("behind Retire: Live = %v, Fault() = %v, Spare() = %d", m.Arena.Live(a), m.Arena.Fault(), m.Arena.Spare())
	}
}

// P5.3: Retire and Take change nothing else.
func TestRetireAlone(t *testing.T) {
	m := newMem(t, 4, 2)
	a := m.node(t, 0)
	m.put(t, 0, a)
	before := look(m)
	m.Retire(a)
	before.waiting = 1
	checkSame(t, m, before, "Retire")
	m.Take()
	before.waiting = 0
	checkSame(t, m, before, "Take")
}

// R3: what Take hands out, nobody uses else: those that come behind it aren't written there, and what is done to it changes nothing.
func TestTakeApart(t *testing.T) {
	m := newMem(t, 1, 1)
	for h := range arena.Handle(5) {
		m.Retire(h + 1)
	}
	first := m.Take()
	for h := range arena.Handle(5) {
		m.Retire(h + 11)
	}
	if !slices.Equal(first, []arena.Handle{1, 2, 3, 4, 5}) {
		t.Errorf("behind others what was taken is %v", first)
	}
	for i := range first {
		first[i] = 99
	}
	_ = append(first[:0], 98, 98, 98, 98, 98, 98)
	if second := m.Take(); !slices.Equal(second, []arena.Handle{11, 12, 13, 14, 15}) {
		t.Errorf("behind a change of what was taken, the next ones are %v", second)
	}
}

// P5.3: many wait, in order.
func TestRetireMany(t *testing.T) {
	m := newMem(t, 1, 1)
	for i := range 100000 {
		m.Retire(arena.Handle(i))
	}
	l := m.Take()
	if len(l) != 100000 || m.Waiting() != 0 {
		t.Fatalf("%d were taken, %d wait", len(l), m.Waiting())
	}
	for i, h := range l {
		if h != arena.Handle(i) {
			t.Fatalf("at %d stands %d", i, h)
		}
	}
}

// rows is a frame that is ready for so many steps, and done by one of them. It tells what it is asked, and of which memory.
type rows struct {
	t             *testing.T
	m             *Mem
	ready, doneBy int
	steps         int
}

// Ready says whether a step may be taken.
func (f *rows) Ready(m *Mem) bool {
	f.t.Helper()
	if m != f.m {
		f.t.Errorf("Ready is asked of another memory")
	}
	return f.steps < f.ready
}

// Step takes a step, which has to be one that may be taken.
func (f *rows) Step(m *Mem) bool {
	f.t.Helper()
	if m != f.m || f.steps >= f.ready || f.doneBy > 0 && f.steps >= f.doneBy {
		f.t.Errorf("a step is taken of another memory, unready, or behind the end, after %d", f.steps)
	}
	f.steps++
	return f.steps == f.doneBy
}

// P5.3: a frame takes steps as long as it is ready, isn't done, and they are fewer than most.
func TestFinish(t *testing.T) {
	const far = 1000000
	cases := []struct {
		ready, doneBy, most, steps int
		done                       bool
	}{
		{far, 1, far, 1, true}, {far, 1, 1, 1, true}, {far, 1, 2, 1, true}, {1, 1, far, 1, true}, {1, 1, math.MaxInt, 1, true},
		{far, 7, far, 7, true}, {far, 7, 8, 7, true}, {far, 7, 7, 7, true}, {far, 7, 6, 6, false}, {far, 7, 1, 1, false},
		{7, 7, far, 7, true}, {6, 7, far, 6, false}, {6, 7, 6, 6, false}, {6, 7, 5, 5, false}, {1, 7, far, 1, false},
		{far, 0, 10, 10, false}, {far, 0, 100000, 100000, false}, {5, 0, math.MaxInt, 5, false},
		{0, 1, far, 0, false}, {0, 0, 5, 0, false}, {0, 0, 0, 0, false},
		{far, 1, 0, 0, false}, {far, 1, -1, 0, false}, {far, 3, math.MinInt, 0, false}, {far, 3, math.MinInt32, 0, false},
	}
	for _, c := range cases {
		m := newMem(t, 1, 1)
		before := look(m)
		f := &rows{t: t, m: m, ready: c.ready, doneBy: c.doneBy}
		steps, done := Finish(m, f, c.most)
		if steps != c.steps || done != c.done || f.steps != c.steps {
			t.Errorf("ready for %d, done by %d, of %d at most: %d, %v, and %d taken, not %d, %v", c.ready, c.doneBy, c.most, steps, done, f.steps, c.steps, c.done)
		}
		checkSame(t, m, before, "Finish")
	}
}

// P5.3: a frame that isn't done goes on where it was.
func TestFinishAgain(t *testing.T) {
	m := newMem(t, 1, 1)
	f := &rows{t: t, m: m, ready: 4, doneBy: 10}
	for i, c := range []struct {
		ready, most, steps int
		done               bool
	}{{4, 3, 3, false}, {4, 3, 1, false}, {4, 3, 0, false}, {9, 0, 0, false}, {9, 99, 5, false}, {99, 99, 1, true}} {
		f.ready = c.ready
		if steps, done := Finish(m, f, c.most); steps != c.steps || done != c.done {
			t.Errorf("the call %d: %d, %v, not %d, %v", i, steps, done, c.steps, c.done)
		}
	}
}

// counts is a frame that is a value: each step adds 1 to a cell, and it is done, and ready, as that cell says.
type counts struct{ cell int }

// Ready says whether the cell is below 5.
func (f counts) Ready(m *Mem) bool {
	word, _ := m.Cells.Load(f.cell)
	return word < 5
}

// Step adds to the cell.
func (f counts) Step(m *Mem) bool {
	word, _ := m.Cells.Add(f.cell, 1)
	return word == 3
}

// P5.3: frames use the memory that they are handed, which changes by their steps.
func TestFinishCell(t *testing.T) {
	m := newMem(t, 1, 2)
	if steps, done := Finish(m, counts{3}, 99); steps != 3 || !done {
		t.Errorf("the first time: %d, %v", steps, done)
	}
	if steps, done := Finish(m, counts{3}, 99); steps != 2 || done {
		t.Errorf("the second time: %d, %v", steps, done)
	}
	if word, _ := m.Cells.Load(3); word != 5 {
		t.Errorf("the cell is %d", word)
	}
}

// P5.1: locks and cells are those of layers 2 and 3, one of each number, and each worker's own.
func TestParts(t *testing.T) {
	m := newMem(t, 1, mostWorkers)
	for i := range lockCount {
		if ok, e := m.Locks.Try(i, i); !ok || e != api.OK {
			t.Errorf("Try(%d) = %v, %v", i, ok, e)
		}
	}
	if ok, e := m.Locks.Try(lockCount, 0); ok || e != api.ErrRange {
		t.Errorf("Try(%d) = %v, %v", lockCount, ok, e)
	}
	for worker := range mostWorkers {
		m.Cells.Store(Counter(worker), uint64(worker)+10)
	}
	want := []uint64{1, 0, 10, 11, 12, 13, 14, 15, 16, 17, 0}
	if s := look(m); !slices.Equal(s.words, want) || !slices.Equal(s.holders, []int{0, 1, 2, 3, 4, 5}) {
		t.Errorf("the cells are %v, the holders %v", s.words, s.holders)
	}
}

// The example of the chapter: of New(4, 2) the cells are 5: the period 1, and others 0; Now has one bucket, at 4.
func TestExample(t *testing.T) {
	m := newMem(t, 4, 2)
	if s := look(m); !slices.Equal(s.words, []uint64{1, 0, 0, 0, 0}) || s.now != (Desc{N: 1, Base: 4}) {
		t.Errorf("the cells are %v, Now() is %v", s.words, s.now)
	}
}

// plain is what a memory's tables and those that wait have to be.
type plain struct {
	tables  []Desc
	cells   int
	waiting []arena.Handle
}

// chain is a bucket's chain, gone along by the arena's words, each handle held against all ahead of it.
func chain(m *Mem, d Desc, bucket int) []arena.Handle {
	if bucket < 0 || bucket >= d.N {
		return nil
	}
	var l []arena.Handle
	word, _ := m.Cells.Load(d.Base + bucket)
	for h := arena.Handle(word); m.Arena.Live(h) && !slices.Contains(l, h); {
		l = append(l, h)
		n, _ := m.Arena.Read(h)
		h = n.Next
	}
	return l
}

// check says whether a memory is what it has to be.
func (p *plain) check(t *testing.T, m *Mem) {
	t.Helper()
	for i, want := range p.tables {
		if d, ok := m.Desc(i); d != want || !ok {
			t.Fatalf("Desc(%d) = %v, %v, not %v", i, d, ok, want)
		}
	}
	word, _ := m.Cells.Load(Current)
	now := Desc{}
	if word < uint64(len(p.tables)) {
		now = p.tables[word]
	}
	if d, ok := m.Desc(len(p.tables)); ok || m.Now() != now || m.Cells.Len() != p.cells || m.Waiting() != len(p.waiting) {
		t.Fatalf("one table more: %v; Now() = %v, %d cells, %d wait", d, m.Now(), m.Cells.Len(), m.Waiting())
	}
	var all []arena.Handle
	for bucket := -1; bucket <= now.N; bucket++ {
		want := chain(m, now, bucket)
		checkChain(t, m, bucket, want...)
		for _, h := range want {
			if !slices.Contains(all, h) {
				all = append(all, h)
			}
		}
	}
	checkReach(t, m, all...)
}

// P5.1, P5.2, P5.3: a long row of calls: whatever words the cells have, and whatever the nodes' Next are, each answers what it has to.
func TestRow(t *testing.T) {
	for _, room := range []int{1, 3, 12} {
		m := newMem(t, room, 2)
		p := &plain{tables: []Desc{{1, 4}}, cells: 5}
		pick := uint32(room)
		next := func(n int) int {
			pick = pick*1664525 + 1013904223
			return int(pick>>8) % n
		}
		handle := func() arena.Handle { return arena.Handle(next(room+2) + far*next(3)) }
		for range 3000 {
			h := handle()
			switch next(9) {
			case 0:
				n := []int{1, 2, 4, 8, 0, 3, 6}[next(7)]
				if i, e := m.Table(n); e == api.OK {
					p.tables = append(p.tables, Desc{N: n, Base: p.cells})
					p.cells += n
					if i != len(p.tables)-1 {
						t.Fatalf("Table(%d) = %d", n, i)
					}
				}
			case 1, 2, 3:
				m.Cells.Store(4+next(p.cells-4), uint64(h))
			case 4:
				m.Cells.Store(Current, uint64(next(len(p.tables)+1)))
			case 5:
				m.Arena.Alloc(arena.Node{Next: h})
			case 6:
				if m.Arena.Live(h) && next(2) > 0 {
					m.Arena.Free(h)
				} else if m.Arena.Live(h) {
					m.Arena.Link(h, handle())
				}
			case 7:
				m.Retire(h)
				p.waiting = append(p.waiting, h)
			case 8:
				if next(3) == 0 {
					if l := m.Take(); !slices.Equal(l, p.waiting) {
						t.Fatalf("Take() = %v, not %v", l, p.waiting)
					}
					p.waiting = nil
				}
			}
			p.check(t, m)
		}
	}
}

// R1: with parts that are another one's, the calls that go along chains end, and don't panic.
func TestOtherParts(t *testing.T) {
	m := newMem(t, 4, 2)
	m.Cells.Store(Current, uint64(m.table(t, 4)))
	m.put(t, 3, m.node(t, 0))
	m.Cells, _ = cells.New(6)
	m.Cells.Store(Current, 1)
	m.Arena, _ = arena.New(1)
	m.Locks, _ = locks.New(0)
	checkChain(t, m, 3)
	checkReach(t, m)
}
