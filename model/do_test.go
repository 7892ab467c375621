package model

import (
	"math"
	"slices"
	"strings"
	"testing"

	"quietus/api"
	"quietus/calls"
	"quietus/plainmap"
	"quietus/trial"
)

// some are pairs of which one has an empty value.
func some() pairs { return pairs{{"a", "x"}, {"c", "z"}, {"b", ""}} }

// The document's example: Put of a and x, to an empty map: Len 1; with full: ErrFull.
func TestExample(t *testing.T) {
	var m Map
	n, r := m.Do(calls.Call{Kind: calls.Put, Key: "a", Val: "x"}, false)
	if n.Len() != 1 || r != (calls.Result{}) {
		t.Errorf("Len = %d, the answer is %#v", n.Len(), r)
	}
	if n, r = m.Do(calls.Call{Kind: calls.Put, Key: "a", Val: "x"}, true); n.Len() != 0 || r != (calls.Result{Err: api.ErrFull}) {
		t.Errorf("with full Len = %d, the answer is %#v", n.Len(), r)
	}
}

// P19.1: of each kind of call, of a key that is there and one that isn't, written out: what is answered, and the map behind it, with full, if that is none of a Put's, as without; what a call of its kind hasn't is not looked at.
func TestDo(t *testing.T) {
	long, longer := strings.Repeat("\xff", 32), strings.Repeat("k", 33)
	l := some()
	for _, c := range []struct {
		calls.Call
		want   calls.Result
		behind pairs
	}{
		{get("a"), calls.Result{Had: true, Val: "x"}, l},
		{get("b"), calls.Result{Had: true}, l},
		{get("d"), calls.Result{}, l},
		{calls.Call{Kind: calls.Get, Key: "a", Val: longer, Size: 3}, calls.Result{Had: true, Val: "x"}, l},
		{put("a", "y"), calls.Result{Had: true}, l.with("a", "y")},
		{put("a", "x"), calls.Result{Had: true}, l},
		{put("a", ""), calls.Result{Had: true}, l.with("a", "")},
		{put("b", "y"), calls.Result{Had: true}, l.with("b", "y")},
		{put("d", "y"), calls.Result{}, l.with("d", "y")},
		{put("d", ""), calls.Result{}, l.with("d", "")},
		{put(long, long), calls.Result{}, l.with(long, long)},
		{calls.Call{Kind: calls.Put, Key: "c", Val: "a", Size: -1}, calls.Result{Had: true}, l.with("c", "a")},
		{del("a"), calls.Result{Had: true, Val: "x"}, l.without("a")},
		{del("b"), calls.Result{Had: true}, l.without("b")},
		{del("d"), calls.Result{}, l},
		{calls.Call{Kind: calls.Delete, Key: "c", Val: longer, Size: 3}, calls.Result{Had: true, Val: "z"}, l.without("c")},
		{resize(1), calls.Result{}, l},
		{resize(65536), calls.Result{}, l},
		{calls.Call{Kind: calls.Resize, Key: "a", Val: "v", Size: 2}, calls.Result{}, l},
		{calls.Call{Kind: calls.Resize, Key: longer, Val: longer, Size: 2}, calls.Result{}, l},
	} {
		for _, full := range []bool{false, true} {
			if full && c.Kind == calls.Put {
				continue
			}
			v := versionOf(t, l)
			is, r := v.is.Do(c.Call, full)
			if r != c.want {
				t.Errorf("full: %v; %#v answers %#v, not %#v", full, c.Call, r, c.want)
			}
			version{is, c.behind}.check(t)
			version{is, c.behind}.checkSame(t)
			v.check(t)
		}
	}
}

// P19.1: of the empty map, as it was at first, and as it is when all keys are gone: no key is there.
func TestDoEmpty(t *testing.T) {
	gone, _ := mapOf(t, pairs{{"a", "x"}}).Do(del("a"), true)
	for _, m := range []Map{{}, gone} {
		v := version{m, nil}
		v.check(t)
		for _, c := range []calls.Call{get("a"), del("a"), resize(4), put("b", "y")} {
			behind := v.do(t, plainmap.Refused{Call: c}, false)
			behind.check(t)
			behind.checkSame(t)
		}
		v.check(t)
		v.checkSame(t)
	}
}

// fails says whether a call is answered by that error alone, and the map is as it was.
func (v version) fails(t *testing.T, c calls.Call, full bool, want api.Errno) {
	t.Helper()
	is, r := v.is.Do(c, full)
	if r != (calls.Result{Err: want}) {
		t.Fatalf("full: %v; %#v answers %#v, not %#v", full, c, r, want)
	}
	for _, m := range []Map{is, v.is} {
		if m.Len() != len(v.want) || !m.Same(v.is) {
			t.Fatalf("behind %#v there is %q, not %q", c, m.Keys(), v.want)
		}
	}
}

// P19.1: a call that Check refuses, and a Resize to a size that may not be, are answered by these errors, in this order, with full and without it: also a Put that Check refuses, with full.
func TestWrongCalls(t *testing.T) {
	for _, l := range []pairs{nil, some(), {{"k0", "v"}}} {
		v := versionOf(t, l)
		for _, c := range plainmap.AllWrong() {
			for _, full := range []bool{false, true} {
				v.fails(t, c.Call, full, c.Err)
			}
		}
		v.check(t)
	}
}

// P19.1: a Put with full is refused, be its key there or not, also one that would put in what there is.
func TestFull(t *testing.T) {
	for _, l := range []pairs{nil, some()} {
		v := versionOf(t, l)
		for _, c := range []calls.Call{put("a", "y"), put("a", "x"), put("a", ""), put("b", ""), put("d", "y"), put("d", ""), {Kind: calls.Put, Key: "a", Size: 4}} {
			v.fails(t, c, true, api.ErrFull)
		}
		v.check(t)
	}
}

// nearPowers are sizes near each power of two that there is, up to the ends of the type, and below 0.
func nearPowers() []int {
	l := []int{math.MinInt, math.MinInt + 1, math.MaxInt, math.MaxInt - 1}
	for shift := range 63 {
		for near := -3; near <= 3; near++ {
			l = append(l, 1<<shift+near, -1<<shift+near)
		}
	}
	return l
}

// P19.1: of a Resize of each size near a power of two, below 1, and above 65536, with full and without: size, if it is no power from 1 to 65536; else it changes nothing, and no key was there.
func TestSizes(t *testing.T) {
	v := versionOf(t, some())
	for _, size := range nearPowers() {
		want := api.ErrSize
		if slices.Contains(trial.Powers(), size) {
			want = api.OK
		}
		for _, full := range []bool{false, true} {
			v.fails(t, resize(size), full, want)
			v.fails(t, calls.Call{Kind: calls.Resize, Key: "a", Val: "v", Size: size}, full, want)
		}
	}
	v.check(t)
}
