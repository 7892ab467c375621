package plainmap

import (
	"math"
	"slices"
	"strings"
	"testing"

	"quietus/api"
	"quietus/arena"
	"quietus/calls"
	"quietus/trial"
)

// The abstract map answers what the chapters say of each kind of call, and has what they have it have.
func TestMap(t *testing.T) {
	a := Map{}
	for i, c := range []struct {
		calls.Call
		full bool
		want calls.Result
	}{
		{calls.Call{Kind: getKind, Key: "a", Val: "v", Size: 3}, false, calls.Result{}},
		{calls.Call{Kind: deleteKind, Key: "a", Val: "v", Size: 3}, true, calls.Result{}},
		{calls.Call{Kind: putKind, Key: "a", Val: "x", Size: 3}, false, calls.Result{}},
		{calls.Call{Kind: getKind, Key: "a"}, true, calls.Result{Had: true, Val: "x"}},
		{calls.Call{Kind: putKind, Key: "a", Val: "y"}, true, calls.Result{Err: api.ErrFull}},
		{calls.Call{Kind: putKind, Key: "a", Val: ""}, false, calls.Result{Had: true}},
		{calls.Call{Kind: getKind, Key: "a"}, false, calls.Result{Had: true}},
		{calls.Call{Kind: resizeKind, Key: "a", Size: 65536}, true, calls.Result{}},
		{calls.Call{Kind: resizeKind, Key: "a", Size: 3}, false, calls.Result{Err: api.ErrSize}},
		{calls.Call{Kind: putKind, Key: "b", Val: "z"}, false, calls.Result{}},
		{calls.Call{Kind: deleteKind, Key: "b", Val: "v"}, true, calls.Result{Had: true, Val: "z"}},
	} {
		if is := a.Do(c.Call, c.full); is != c.want {
			t.Errorf("the call %d answers %v, not %v", i, is, c.want)
		}
	}
	if len(a) != 1 || a["a"] != "" {
		t.Errorf("it has %v", a)
	}
}

// done does a call of the worker 0 on both, and says whether the same is answered.
func done(x *Alone, c calls.Call, refused api.Errno) bool {
	return x.Do(c, refused) == DoneBy(x.T, x.M, 0, c)
}

// Calls on both answer the same, and what there is is the same; Puts that are refused are counted.
func TestAlone(t *testing.T) {
	x := New(t, 2, 3)
	for i, c := range []Refused{
		{Call: calls.Call{Kind: putKind, Key: "a", Val: "x"}},
		{Call: calls.Call{Kind: putKind, Key: "a", Val: "y"}},
		{Call: calls.Call{Kind: putKind, Key: "a", Val: "z"}},
		{Call: calls.Call{Kind: putKind, Key: "b", Val: "z"}},
		{Call: calls.Call{Kind: resizeKind, Size: 4}},
		{Call: calls.Call{Kind: resizeKind, Size: 3}},
		{Call: calls.Call{Kind: getKind, Key: ""}, Err: api.ErrKey},
		{Call: calls.Call{Kind: getKind, Key: "a"}},
	} {
		if !done(x, c.Call, c.Err) {
			t.Errorf("of the call %d the answers differ", i)
		}
		x.Check()
	}
	if x.Full != 2 || x.Replacing != 1 || x.Vals["a"] != "y" || len(x.Vals) != 1 || x.M.Waiting() != 1 || x.M.Now().N != 4 || x.M.Workers() != 3 {
		t.Errorf("it is %v", x)
	}
	x.Drain()
	if x.M.Waiting() != 0 || x.M.Arena.Spare() != 1 {
		t.Errorf("drained, %d wait", x.M.Waiting())
	}
	x.Drain()
	x.Check()
}

// Of whatever is otherwise than the abstract map has it, or isn't as one call after the other leaves it, it is told.
func TestAloneTells(t *testing.T) {
	for i, wrong := range []func(x *Alone){
		func(x *Alone) { x.Vals["a"] = "y" },
		func(x *Alone) { delete(x.Vals, "a") },
		func(x *Alone) { x.Vals["other"] = "y" },
		func(x *Alone) { x.Do(calls.Call{Kind: deleteKind, Key: "a"}, api.OK) },
		func(x *Alone) { x.Do(calls.Call{Kind: putKind, Key: "b"}, api.OK) },
		func(x *Alone) { x.Do(calls.Call{Kind: resizeKind, Size: 2}, api.OK) },
		func(x *Alone) { x.M.Arena.Alloc(arena.Node{}) },
		func(x *Alone) { x.M.Arena.Read(0) },
		func(x *Alone) { x.M.Retire(2) },
		func(x *Alone) { x.M.Cells.Store(3, 1) },
		func(x *Alone) { x.M.Locks.Try(5, 0) },
	} {
		fault := trial.Told(func(t trial.T) {
			x := New(t, 3, 2)
			done(x, calls.Call{Kind: putKind, Key: "a", Val: "x"}, api.OK)
			x.Check()
			wrong(x)
			x.Check()
		})
		if !fault {
			t.Errorf("of the wrong one %d nothing is told", i)
		}
	}
	if !trial.Told(func(t trial.T) { New(t, 1, 9) }) {
		t.Error("of too many workers nothing is told")
	}
	if !trial.Told(func(t trial.T) {
		x := New(t, 1, 1)
		x.M.Locks.Try(1, 1)
		DoneBy(t, x.M, 0, calls.Call{Kind: deleteKind, Key: "a"})
	}) {
		t.Error("of a call that isn't done nothing is told")
	}
}

// Calls that are refused are refused by that error, those that may be by none; of each kind there are some.
func TestCalls(t *testing.T) {
	errs, kinds := map[api.Errno]int{}, map[calls.Kind]int{}
	may := slices.Concat(Of(trial.KeysByTurns(2, 3)), Short())
	next := trial.Picker(1)
	for range 1000 {
		for _, c := range []Refused{{Call: Pick(next)}, PickAny(next), PickFew(next)} {
			may = append(may, c.Call)
			if c.Err != api.OK {
				may = may[:len(may)-1]
				errs[c.Err]++
			}
		}
	}
	for _, c := range may {
		kinds[c.Kind]++
		if e := c.Check(); e != api.OK {
			t.Errorf("Check of %#v = %v", c, e)
		}
	}
	for _, c := range AllRefused() {
		if e := c.Check(); e != c.Err {
			t.Errorf("Check of %#v = %v, not %v", c.Call, e, c.Err)
		}
	}
	if errs[api.ErrKey] < 10 || errs[api.ErrForm] < 10 || len(errs) != 2 || len(kinds) != 4 || kinds[resizeKind] < 100 {
		t.Errorf("refused are %v, of the kinds there are %v", errs, kinds)
	}
}

// Calls that are answered with an error are those that are refused, and resizes, to all sizes that may not be.
func TestAllWrong(t *testing.T) {
	wrong, refused := AllWrong(), AllRefused()
	if !slices.Equal(wrong[:len(refused)], refused) {
		t.Errorf("there are %v", wrong)
	}
	var l []int
	for _, c := range wrong[len(refused):] {
		l = append(l, c.Size)
		if c.Kind != resizeKind || c.Err != api.ErrSize {
			t.Errorf("there is %v", c)
		}
	}
	if !slices.Equal(l, []int{0, 3, 65537, 131072, -1, -2, math.MinInt, math.MaxInt}) {
		t.Errorf("the sizes are %v", l)
	}
}

// Calls of a table are of each key that is there, and of each bucket of one that isn't.
func TestOf(t *testing.T) {
	keys := trial.KeysByTurns(4, 3)
	is := map[string]int{}
	for _, c := range Of(keys) {
		is[c.Key]++
	}
	buckets := map[int]bool{}
	for key, n := range is {
		if bucket := trial.BucketOf(key, 4); key != "" && !slices.Contains(keys[bucket], key) {
			buckets[bucket] = true
		}
		if n != 4 && key != "" {
			t.Errorf("of the key %q there are %d", key, n)
		}
	}
	if len(buckets) != 4 || len(is) != 1+4+len(slices.Concat(keys...)) {
		t.Errorf("the keys are %v", is)
	}
}

// Keys are some of each length that may be.
func TestKeys(t *testing.T) {
	l := Keys()
	if !slices.Contains(l, strings.Repeat("k", 32)) || !slices.Contains(l, "k") || slices.Contains(l, "") || len(l) < 15 {
		t.Errorf("the keys are %q", l)
	}
	for _, key := range l {
		if len(key) > 32 {
			t.Errorf("the key %q may not be", key)
		}
	}
}
