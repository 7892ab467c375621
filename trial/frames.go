package trial

import (
	"quietus/api"
	"quietus/mem"
)

// Frames are frames of all workers of a row, one each, and how many were done, and failed.
type Frames struct {
	*Row
	// Make makes a worker's next one.
	Make func(worker int) Failing
	// Frees says whether those that fail have steps behind that, by which they free what they hold.
	Frees       bool
	Done, Fails int

	now []Failing
}

// NewFrames are those of a row of so many workers.
func NewFrames(t T, workers int, seed uint32) *Frames {
	t.Helper()
	return &Frames{Row: NewRow(t, workers, seed), now: make([]Failing, workers)}
}

// Go has so many steps be taken, ready or not, while others do whatever they may: each changes one thing at most, and an error is told just as a frame is done, or from where it failed on.
func (r *Frames) Go(steps int) {
	r.T.Helper()
	for range steps {
		if r.Next(3) == 0 {
			r.Disturb()
		}
		worker := r.Next(len(r.now))
		if r.now[worker] == nil {
			r.now[worker] = r.Make(worker)
		}
		r.step(worker)
	}
}

// step has a worker's frame take its step.
func (r *Frames) step(worker int) {
	r.T.Helper()
	f, before := r.now[worker], Look(r.M)
	told := f.Err()
	done := f.Step(r.M)
	OneAtMost(r.T, before, Look(r.M), "a row of steps")
	e := f.Err()
	if told != api.OK && told != e || !done && e != api.OK && !r.Frees {
		r.T.Fatalf("behind Err = %v it is %v; done: %v", told, e, done)
	}
	if !done {
		return
	}
	r.now[worker] = nil
	r.Done++
	if e != api.OK {
		r.Fails++
	}
}

// LeaveAlone has all frames that are on their way come to their ends, none of which is far: with nobody in, and all locks free, but those that they have.
func (r *Frames) LeaveAlone() {
	r.T.Helper()
	for worker := range r.M.Workers() {
		r.M.Cells.Store(firstCounter+worker, 0)
	}
	FreeSome(r.M)
	for range r.now {
		for worker, f := range r.now {
			if f == nil {
				continue
			}
			n, done := mem.Finish(r.M, f, 2*enough)
			if n == 2*enough {
				r.T.Fatalf("left alone it has no end")
			}
			if done {
				r.now[worker] = nil
			}
		}
	}
	for worker, f := range r.now {
		if f != nil {
			r.T.Fatalf("left alone the frame of %d isn't done; the period's lock has %d", worker, r.M.Locks.Holder(periodLock))
		}
	}
}
