package beside

import (
	"strconv"

	"quietus/api"
	"quietus/arena"
	"quietus/crowd"
	"quietus/del"
	"quietus/mem"
	"quietus/put"
	"quietus/trial"
)

const (
	firstWriter = 1
	resizeLock  = 5
)

// inTurn is a frame of frames, one after the other, of those that are left.
type inTurn struct{ left []mem.Frame }

// Ready says whether the one whose turn it is is ready.
func (f *inTurn) Ready(m *mem.Mem) bool { return f.left[0].Ready(m) }

// Step takes a step of the one whose turn it is.
func (f *inTurn) Step(m *mem.Mem) bool {
	if f.left[0].Step(m) {
		f.left = f.left[1:]
	}
	return len(f.left) == 0
}

// Call is a call of one who has another table count, by which no key comes to have anything else, and which mustn't fail.
func Call(t trial.T, f trial.Failing) *crowd.Call { return callOf(t, f, f.Err) }

// Locked is a call of one who leaves the locks to others: the worker takes all those that it has to hold, ahead of it, and frees them behind it.
func Locked(t trial.T, worker int, f trial.Failing) *crowd.Call {
	var take, free []trial.Act
	for lock := firstWriter; lock <= resizeLock; lock++ {
		may := func(m *mem.Mem) bool { return m.Locks.Holder(lock) == -1 }
		take = append(take, trial.Act{Ready: may, Do: func(m *mem.Mem) { m.Locks.Try(lock, worker) }})
		free = append(free, trial.Act{Do: func(m *mem.Mem) { m.Locks.Free(lock, worker) }})
	}
	return callOf(t, &inTurn{[]mem.Frame{trial.MakeActs(take...)(), f, trial.MakeActs(free...)()}}, f.Err)
}

// callOf is a call of a frame that tells no error.
func callOf(t trial.T, f mem.Frame, err func() api.Errno) *crowd.Call {
	return &crowd.Call{
		Frame: f,
		Step:  func(take func() bool) bool { return take() },
		Told: func() {
			if e := err(); e != api.OK {
				t.Fatalf("Err = %v", e)
			}
		},
		Mine: func() arena.Handle { return 0 },
	}
}

// Maker makes what a crowd's workers do: by - a del, by any other mark of these one who has another table count, of whom there are so many at most; else, and instead of more of them, a put, of a value that no other one has.
func Maker(most int, changes map[byte]func(c *crowd.Crowd, worker int) *crowd.Call) crowd.Maker {
	puts := 0
	return func(c *crowd.Crowd, worker int, mark byte, key string) *crowd.Call {
		if mark == '-' {
			d := del.New(worker, key)
			return c.DelCall(d, d.Mine, key)
		}
		if change := changes[mark]; change != nil && most > 0 {
			most--
			return change(c, worker)
		}
		puts++
		val := key + strconv.Itoa(puts)
		p := put.New(worker, key, val)
		return c.PutCall(p, p.Mine, key, val)
	}
}
