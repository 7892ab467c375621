package trial

import (
	"quietus/api"
	"quietus/mem"
)

// Failing is a frame that may fail, and says by what error.
type Failing interface {
	mem.Frame
	Err() api.Errno
}

// Waiting is a plain frame that waits, and says at which worker's counter it looks by its next step, and whether it looks at one.
type Waiting interface {
	Plain
	Looks() (worker int, looks bool)
}

// Pair is a frame that doesn't fail here, and the plain one that tells what it has to do.
type Pair struct {
	T T
	F Failing
	P Waiting
}

// Tells says whether the frame tells that all is well.
func (x *Pair) Tells(what string) {
	x.T.Helper()
	for range 2 {
		if e := x.F.Err(); e != api.OK {
			x.T.Fatalf("%s: Err = %v", what, e)
		}
	}
}

// Step has the frame take its step, ready or not, and says whether it is done: it does what the plain one tells, and nothing else.
func (x *Pair) Step(m *mem.Mem) bool {
	x.T.Helper()
	done := StepAs(x.T, m, x.F, x.P, func() bool { return x.F.Step(m) }, "a step")
	x.Tells("a step")
	return done
}

// Finish has the frame take all its steps that are left, for each of which it has to be ready, and says how many there were.
func (x *Pair) Finish(m *mem.Mem) int {
	x.T.Helper()
	for n := 1; ; n++ {
		if !x.F.Ready(m) {
			x.T.Fatalf("ahead of its step %d from here on it isn't ready", n)
		}
		if x.Step(m) {
			return n
		}
	}
}

// GoesTo has the frame take steps up to where it waits for a worker that is in.
func (x *Pair) GoesTo(m *mem.Mem, worker int) {
	x.T.Helper()
	for x.F.Ready(m) {
		if x.Step(m) {
			x.T.Fatalf("it is done, though the worker %d is in", worker)
		}
	}
	if is, looks := x.P.Looks(); is != worker || !looks {
		x.T.Fatalf("it waits for the worker %d: %v, not for %d", is, looks, worker)
	}
	Stuck(x.T, m, x.F, "a worker is in")
	x.Tells("a worker is in")
}

// Fails says whether a frame that mustn't come to its end is done with this error, and nothing is changed; the error is told by the end, not ahead of it.
func Fails(t T, m *mem.Mem, f Failing, want api.Errno, what string) {
	t.Helper()
	before := Look(m)
	for n := 0; ; n++ {
		if e := f.Err(); e != api.OK || !f.Ready(m) || n == 9 {
			t.Fatalf("%s: ahead of the step %d Err = %v, Ready = %v", what, n, e, f.Ready(m))
		}
		if f.Step(m) {
			break
		}
		before.Check(t, m, what)
	}
	for range 3 {
		if e := f.Err(); e != want {
			t.Fatalf("%s: Err = %v", what, e)
		}
		before.Check(t, m, what)
		f.Ready(m)
		f.Step(m)
	}
}
