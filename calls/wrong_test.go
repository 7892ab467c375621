package calls_test

import (
	"slices"
	"testing"

	"quietus/api"
	"quietus/arena"
	. "quietus/calls"
	"quietus/mem"
	"quietus/plainmap"
	"quietus/trial"
)

// enough is more steps than a call may take of a small memory, but one that goes round in a chain that comes back.
const enough = 300

// R1: of a worker that there isn't, below 0 or beyond the last one, all calls end, none panics, and each does what its layer's frame does: a Put, a Delete, and a Resize to a size that may be, of one below 0, which can have no lock, are never done, and answer nothing.
func TestNoWorker(t *testing.T) {
	keys := trial.KeysByTurns(2, 3)
	for _, worker := range append(trial.NotWorkers(), 3, 4, 5) {
		for _, c := range plainmap.Of(keys) {
			x := tablePair(t, 3, worker, keys, false, c)
			x.goOn(enough)
			stays := worker < 0 && c.Kind != getKind && (c.Kind != resizeKind || slices.Contains(trial.Powers(), c.Size))
			if x.over == stays {
				t.Fatalf("%s: it is done: %v", x.what, x.over)
			}
			if _, done := x.run.Result(); done == stays {
				t.Fatalf("%s: it answers: %v", x.what, done)
			}
		}
	}
}

// P16.1, P16.2: bytes that are no text are as good a key, and a value, as others: none is taken for another one; an empty key isn't one.
func TestWhateverBytes(t *testing.T) {
	keys := plainmap.Keys()
	for i := range 256 {
		keys = append(keys, string([]byte{byte(i)}))
	}
	slices.Sort(keys)
	keys = slices.Compact(keys)
	x := newAlone(t, 2*len(keys), 1)
	x.do(0, Call{Kind: resizeKind, Size: 32}, api.OK)
	for _, kind := range []Kind{getKind, putKind, getKind, putKind, deleteKind, getKind} {
		for i, key := range keys {
			x.do(0, Call{Kind: kind, Key: key, Val: keys[(i+x.M.Waiting())%len(keys)]}, api.OK)
		}
		x.do(0, Call{Kind: kind, Val: "v"}, api.ErrKey)
		x.Check()
		x.Drain()
	}
}

// P16.1, R1: of a number in cell 1 of which there is no table, no key is there, and none comes there: a Get, a Put and a Delete answer that it wasn't, without an error; a Resize to a size that may be answers size, as the table that counts has no bucket. Nothing is changed.
func TestWrongNumber(t *testing.T) {
	keys := trial.KeysByTurns(2, 3)
	for _, number := range trial.WrongNumbers(2) {
		for _, full := range []bool{false, true} {
			for _, c := range plainmap.Of(keys) {
				m, o := trial.TableOf(t, 2, keys, full), trial.TableOf(t, 2, keys, full)
				m.Cells.Store(currentCell, number)
				o.Cells.Store(currentCell, number)
				before := trial.Look(m)
				x := newPair(t, m, o, 1, c, api.OK)
				if n := x.finish(); n > 12 {
					t.Fatalf("%s, of the number %d, takes %d steps", x.what, number, n)
				}
				var want Result
				if c.Kind == resizeKind {
					want.Err = api.ErrSize
				}
				if r, _ := x.run.Result(); r != want {
					t.Fatalf("%s, of the number %d: Result = %v", x.what, number, r)
				}
				before.Check(t, m, x.what)
			}
		}
	}
}

// P16.1, R1: of handles that are stale, in a bucket's cell or behind a node, and of chains that come back, each call does what its layer's frame does, and each step ends.
func TestWrongChains(t *testing.T) {
	keys := trial.KeysByTurns(2, 4)
	for _, c := range plainmap.Of(keys) {
		for _, wrong := range []arena.Handle{1, 3 + far, 1 << 32, 1<<64 - 1, 3} {
			for place := range 3 {
				x := tablePair(t, 2, 0, keys, false, c)
				x.each(func(m *mem.Mem) {
					l := m.Chain(1)
					trial.Join(t, m, m.Now().Base+1, l, place, wrong)
				})
				if x.goOn(enough); !x.over && !x.run.Ready(x.m) {
					t.Fatalf("%s, of %d: it isn't done, nor ready", x.what, wrong)
				}
			}
		}
	}
}

// rows are two rows that are the same, of two memories, and pairs of all workers, one each.
type rows struct {
	t       *testing.T
	is, own *trial.Row
	next    func(n int) int
	pairs   []*pair
	n       counts
}

// newRows are those of so many workers.
func newRows(t *testing.T, workers int, seed uint32) *rows {
	t.Helper()
	r := &rows{t: t, is: trial.NewRow(t, workers, seed), own: trial.NewRow(t, workers, seed), next: trial.Picker(seed + 77)}
	r.pairs = make([]*pair, workers)
	return r
}

// pick is a call of a worker, of keys that others put in, too, or one that is refused.
func (r *rows) pick(worker int) *pair {
	r.t.Helper()
	c := plainmap.PickFew(r.next)
	return newPair(r.t, r.is.M, r.own.M, worker, c.Call, c.Err)
}

// step has a worker's call take its step, ready or not. One that is done makes place for a new one.
func (r *rows) step() {
	r.t.Helper()
	worker := r.next(len(r.pairs))
	if r.pairs[worker] == nil {
		r.pairs[worker] = r.pick(worker)
	}
	r.pairs[worker].step()
	for _, x := range r.pairs {
		if x != nil {
			x.tells()
		}
	}
	if r.pairs[worker].over {
		answer, _ := r.pairs[worker].run.Result()
		r.n.count(answer)
		r.pairs[worker] = nil
	}
}

// P16.1: long rows of steps of calls beside each other, ready or not, of nodes and chains that others change in whatever way, of locks that they take, of tables that come to count, and numbers that no table has: each comes to what its layer's frame comes to, in the same memory, and tells so.
func TestRow(t *testing.T) {
	var n counts
	for workers := 1; workers <= mostWorkers; workers++ {
		for seed := range uint32(25) {
			r := newRows(t, workers, seed)
			for range 900 {
				if r.next(3) == 0 {
					r.is.Disturb()
					r.own.Disturb()
				}
				r.step()
			}
			n.had, n.missed, n.full, n.size, n.key = n.had+r.n.had, n.missed+r.n.missed, n.full+r.n.full, n.size+r.n.size, n.key+r.n.key
		}
	}
	if n.had < 300 || n.missed < 2000 || n.full < 200 || n.size < 150 || n.key < 300 {
		t.Errorf("the answers are %v alone", n)
	}
}
