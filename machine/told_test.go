package machine

import (
	"fmt"
	"slices"
	"testing"

	"quietus/api"
	"quietus/calls"
	"quietus/plainmap"
	"quietus/trial"
	"quietus/worker"
)

// story is what is known of the calls of one key, each worker's in their order: who looks for an order in which they can be told call by call has to know no more, as none of them changes what another key has.
type story struct {
	rows [][]worker.Entry
	// val, had is what the key has behind all of them.
	val string
	had bool
	// met are the places from which they can't be told on, and what the key has there.
	met map[string]bool
}

// told says whether a history can be told call by call, from an empty map on, so that each key has in the end what it has to.
func told(history []worker.Entry, end func(key string) (string, bool)) bool {
	stories := map[string]*story{}
	for _, e := range history {
		if err := e.Call.Check(); err != api.OK || e.Call.Kind == calls.Resize {
			if e.Result != (calls.Result{Err: refusal(e.Call)}) {
				return false
			}
			continue
		}
		s := stories[e.Call.Key]
		if s == nil {
			s = &story{rows: make([][]worker.Entry, mostWorkers), met: map[string]bool{}}
			s.val, s.had = end(e.Call.Key)
			stories[e.Call.Key] = s
		}
		s.rows[e.Worker] = append(s.rows[e.Worker], e)
	}
	for _, s := range stories {
		if !s.tell(make([]int, mostWorkers), plainmap.Map{}) {
			return false
		}
	}
	return true
}

// refusal is the error of a call that may not be, or of a resize.
func refusal(c calls.Call) api.Errno {
	if e := c.Check(); e != api.OK {
		return e
	}
	return plainmap.Map{}.Do(c, false).Err
}

// tell says whether what is left of each row can be told, of what the key has.
func (s *story) tell(at []int, vals plainmap.Map) bool {
	state := fmt.Sprint(at, vals)
	if s.met[state] {
		return false
	}
	s.met[state] = true
	left := s.left(at)
	if len(left) == 0 {
		return s.ends(vals)
	}
	for _, e := range left {
		if slices.ContainsFunc(left, func(o worker.Entry) bool { return o.End < e.Begin }) {
			continue
		}
		then, behind := plainmap.Map{}, slices.Clone(at)
		for key, val := range vals {
			then[key] = val
		}
		behind[e.Worker]++
		// Whether a place was free can't be told by the map.
		if then.Do(e.Call, e.Result.Err == api.ErrFull) == e.Result && s.tell(behind, then) {
			return true
		}
	}
	return false
}

// left are the first entries of what is left of the rows.
func (s *story) left(at []int) []worker.Entry {
	var l []worker.Entry
	for i, row := range s.rows {
		if at[i] < len(row) {
			l = append(l, row[at[i]])
		}
	}
	return l
}

// ends says whether the key has what it has to have in the end.
func (s *story) ends(vals plainmap.Map) bool {
	for _, val := range vals {
		return s.had && val == s.val
	}
	return !s.had
}

// entry is the entry of a call of a worker, from one step to another one.
func entry(number, begin, end int, c calls.Call, r calls.Result) worker.Entry {
	return worker.Entry{Worker: number, Call: c, Begin: begin, End: end, Result: r}
}

// Histories that can be told call by call are told so, others aren't.
func TestTold(t *testing.T) {
	put := func(val string) calls.Call { return calls.Call{Kind: calls.Put, Key: "a", Val: val} }
	get, del := calls.Call{Key: "a"}, calls.Call{Kind: calls.Delete, Key: "a"}
	none, had := calls.Result{}, calls.Result{Had: true}
	has := func(val string) calls.Result { return calls.Result{Had: true, Val: val} }
	for i, c := range []struct {
		l    []worker.Entry
		end  string
		want bool
	}{
		{nil, "", true},
		{[]worker.Entry{entry(0, 0, 1, get, none)}, "", true},
		{[]worker.Entry{entry(0, 0, 1, get, had)}, "", false},
		{[]worker.Entry{entry(0, 0, 9, get, has("x")), entry(1, 0, 9, put("x"), none)}, "x", true},
		{[]worker.Entry{entry(0, 0, 9, get, none), entry(1, 0, 9, put("x"), none)}, "x", true},
		{[]worker.Entry{entry(0, 0, 9, get, none), entry(1, 0, 9, put("x"), none)}, "", false},
		{[]worker.Entry{entry(0, 0, 9, get, none), entry(1, 0, 9, put("x"), none)}, "y", false},
		{[]worker.Entry{entry(1, 0, 4, put("x"), none), entry(0, 5, 9, get, none)}, "x", false},
		{[]worker.Entry{entry(1, 0, 5, put("x"), none), entry(0, 5, 9, get, none)}, "x", true},
		{[]worker.Entry{entry(0, 0, 4, get, has("x")), entry(1, 5, 9, put("x"), none)}, "x", false},
		{[]worker.Entry{entry(1, 0, 9, put("x"), none), entry(2, 0, 9, put("y"), had), entry(0, 10, 11, get, has("y"))}, "y", true},
		{[]worker.Entry{entry(1, 0, 9, put("x"), none), entry(2, 0, 9, put("y"), had), entry(0, 10, 11, get, has("x"))}, "x", false},
		{[]worker.Entry{entry(1, 0, 9, put("x"), none), entry(2, 0, 9, del, has("x")), entry(0, 3, 4, get, has("x")), entry(0, 5, 6, get, none)}, "", true},
		{[]worker.Entry{entry(1, 0, 9, put("x"), none), entry(2, 0, 9, del, has("x")), entry(0, 3, 4, get, none), entry(0, 5, 6, get, has("x"))}, "", true},
		{[]worker.Entry{entry(1, 0, 9, put("x"), none), entry(0, 3, 4, get, has("x")), entry(0, 5, 6, get, none)}, "x", false},
		{[]worker.Entry{entry(1, 0, 9, put("x"), calls.Result{Err: api.ErrFull}), entry(0, 10, 11, get, none)}, "", true},
		{[]worker.Entry{entry(1, 0, 9, put("x"), calls.Result{Err: api.ErrFull})}, "x", false},
		{[]worker.Entry{entry(1, 0, 9, put("x"), calls.Result{Err: api.ErrFull, Had: true})}, "", false},
		{[]worker.Entry{entry(0, 0, 0, calls.Call{}, calls.Result{Err: api.ErrKey})}, "", true},
		{[]worker.Entry{entry(0, 0, 0, calls.Call{}, none)}, "", false},
		{[]worker.Entry{entry(0, 0, 0, calls.Call{Kind: calls.Resize, Size: 3}, calls.Result{Err: api.ErrSize})}, "", true},
		{[]worker.Entry{entry(0, 0, 0, calls.Call{Kind: calls.Resize, Size: 4}, calls.Result{Err: api.ErrSize})}, "", false},
	} {
		if is := told(c.l, func(string) (string, bool) { return c.end, c.end != "" }); is != c.want {
			t.Errorf("the history %d, %v, can be told: %v", i, c.l, is)
		}
	}
}

// isTold says whether the history of a machine that is over can be told call by call, so that in the end each key has what it has.
func (w *twin) isTold() {
	w.t.Helper()
	if !told(w.x.History(), func(key string) (string, bool) { return trial.ValOf(w.m, key) }) {
		w.t.Fatalf("this history can't be told call by call: %v", w.x.History())
	}
}
