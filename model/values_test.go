package model

import (
	"fmt"
	"slices"
	"testing"

	"quietus/api"
	"quietus/calls"
	"quietus/plainmap"
	"quietus/trial"
)

// goOn does each of such calls, full or not, on the last one of these versions, and so on for so many calls: each elder one stays as it was.
func goOn(t *testing.T, l []version, some []plainmap.Refused, left int) {
	for _, v := range l {
		v.check(t)
	}
	if left == 0 {
		return
	}
	for _, c := range some {
		for _, full := range []bool{false, true} {
			goOn(t, append(l, l[len(l)-1].do(t, c, full)), some, left-1)
		}
	}
}

// P19.1: all short rows of calls, from an empty map on, and from one that has keys: each answer, and each map, is what it has to be; whatever is done to a map, it stays as it was, the zero Map, too, also where nothing was changed.
func TestElderStay(t *testing.T) {
	some := []plainmap.Refused{{Call: calls.Call{}, Err: api.ErrKey}}
	for _, c := range plainmap.Short() {
		some = append(some, plainmap.Refused{Call: c})
	}
	goOn(t, []version{{}}, some, 3)
	goOn(t, []version{versionOf(t, pairs{{"b", "z"}, {"a", ""}})}, some, 2)
}

// P19.1, P19.2: of one map many are made, each otherwise: none has what another one has, and each is the same as itself alone.
func TestManyOfOne(t *testing.T) {
	of := versionOf(t, pairs{{"a", "x"}, {"b", "y"}, {"c", "z"}})
	all := []version{of}
	for i := range 20 {
		for _, c := range []calls.Call{put(fmt.Sprint("k", i), "v"), put("a", fmt.Sprint(i)), put("b", fmt.Sprint(i))} {
			all = append(all, of.do(t, plainmap.Refused{Call: c}, false))
		}
	}
	for _, key := range of.want.keys() {
		all = append(all, of.do(t, plainmap.Refused{Call: del(key)}, true))
	}
	for i, v := range all {
		v.check(t)
		for j, o := range all {
			if v.is.Same(o.is) != (i == j) {
				t.Errorf("of %q and %q Same = %v", v.want, o.want, i != j)
			}
		}
	}
}

// P19.1: a zero Map is empty, whatever was done to other ones.
func TestZero(t *testing.T) {
	var m Map
	mapOf(t, some())
	n, _ := m.Do(put("a", "x"), false)
	for _, zero := range []version{{}, {m, nil}, {*new(Map), nil}} {
		zero.check(t)
		zero.checkSame(t)
	}
	version{n, pairs{{"a", "x"}}}.check(t)
}

// P19.1: what is told of a map, and what was answered, stays as it was, whatever is done to the map behind it.
func TestAnswersStay(t *testing.T) {
	m := mapOf(t, some())
	keys := m.Keys()
	n, gone := m.Do(del("a"), false)
	o, _ := n.Do(put("a", "new"), false)
	if !slices.Equal(keys, []string{"a", "b", "c"}) || gone != (calls.Result{Had: true, Val: "x"}) {
		t.Errorf("the keys are %q, the answer is %#v", keys, gone)
	}
	version{m, some()}.check(t)
	version{n, some().without("a")}.check(t)
	version{o, some().with("a", "new")}.check(t)
}

// P19.1, P19.2: long rows of calls, full or not, calls that are refused among them: each answer, and the map behind each, is what the list of pairs comes to.
func TestLongRows(t *testing.T) {
	errs, most := map[api.Errno]int{}, 0
	for seed := range uint32(12) {
		next, v := trial.Picker(seed), version{}
		for range 1000 {
			c, full := plainmap.PickAny(next), next(4) == 0
			_, r := v.want.do(c, full)
			errs[r.Err]++
			v = v.do(t, c, full)
			v.check(t)
			most = max(most, len(v.want))
		}
		v.checkSame(t)
	}
	if len(errs) != 5 || errs[api.ErrFull] < 500 || errs[api.ErrSize] < 100 || most < 10 {
		t.Errorf("there were %d keys at most, and these errors: %v", most, errs)
	}
}

// P19.1, P19.2: the same of calls on whichever of the maps that there are, elder ones as often as newer ones: all of them stay as they were.
func TestLongRowsOfMany(t *testing.T) {
	for seed := range uint32(4) {
		next, all := trial.Picker(seed), []version{{}}
		for range 600 {
			v := all[next(len(all))]
			if next(2) == 0 {
				v = all[len(all)-1]
			}
			all = append(all, v.do(t, plainmap.PickAny(next), next(5) == 0))
			all[next(len(all))].check(t)
		}
		for i, v := range all {
			v.check(t)
			o := all[next(i+1)]
			same := slices.Equal(v.want.keys(), o.want.keys())
			for _, p := range v.want {
				val, _ := o.want.get(p.key)
				same = same && val == p.val
			}
			if v.is.Same(o.is) != same || o.is.Same(v.is) != same {
				t.Fatalf("of %q and %q Same = %v, %v", v.want, o.want, v.is.Same(o.is), o.is.Same(v.is))
			}
		}
	}
}
