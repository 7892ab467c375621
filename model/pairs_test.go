package model

import (
	"bytes"
	"slices"
	"testing"

	"quietus/api"
	"quietus/calls"
	"quietus/plainmap"
	"quietus/trial"
)

// pair is a key and its value.
type pair struct{ key, val string }

// pairs are the abstract map as a list, which is searched from its beginning on. None is changed: what is made of one is another one.
type pairs []pair

// get is a key's value.
func (l pairs) get(key string) (string, bool) {
	for _, p := range l {
		if p.key == key {
			return p.val, true
		}
	}
	return "", false
}

// without are those of other keys.
func (l pairs) without(key string) pairs {
	var others pairs
	for _, p := range l {
		if p.key != key {
			others = append(others, p)
		}
	}
	return others
}

// with are those of other keys, and one more.
func (l pairs) with(key, val string) pairs { return append(l.without(key), pair{key, val}) }

// keys are all keys, rising.
func (l pairs) keys() []string {
	var all []string
	for _, p := range l {
		all = append(all, p.key)
	}
	slices.SortFunc(all, func(a, b string) int { return bytes.Compare([]byte(a), []byte(b)) })
	return all
}

// do is what there is behind a call, and what is answered.
func (l pairs) do(c plainmap.Refused, full bool) (pairs, calls.Result) {
	val, had := l.get(c.Key)
	switch {
	case c.Err != api.OK:
		return l, calls.Result{Err: c.Err}
	case c.Kind == calls.Get:
		return l, calls.Result{Had: had, Val: val}
	case c.Kind == calls.Delete:
		return l.without(c.Key), calls.Result{Had: had, Val: val}
	case c.Kind == calls.Resize && slices.Contains(trial.Powers(), c.Size):
		return l, calls.Result{}
	case c.Kind == calls.Resize:
		return l, calls.Result{Err: api.ErrSize}
	case full:
		return l, calls.Result{Err: api.ErrFull}
	}
	return l.with(c.Key, c.Val), calls.Result{Had: had}
}

// mapOf is a map of such pairs, put in one after the other, from an empty one on.
func mapOf(t *testing.T, l pairs) Map {
	t.Helper()
	var m Map
	for _, p := range l {
		var r calls.Result
		if m, r = m.Do(put(p.key, p.val), false); r != (calls.Result{}) {
			t.Fatalf("the put of %q answers %#v", p.key, r)
		}
	}
	return m
}

// get, put, del and resize are calls.
func get(key string) calls.Call      { return calls.Call{Kind: calls.Get, Key: key} }
func put(key, val string) calls.Call { return calls.Call{Kind: calls.Put, Key: key, Val: val} }
func del(key string) calls.Call      { return calls.Call{Kind: calls.Delete, Key: key} }
func resize(size int) calls.Call     { return calls.Call{Kind: calls.Resize, Size: size} }

// version is a map, and the pairs that it has to have.
type version struct {
	is   Map
	want pairs
}

// versionOf is one of such pairs.
func versionOf(t *testing.T, l pairs) version {
	t.Helper()
	return version{mapOf(t, l), l}
}

// do is the version behind a call, which answers what it has to.
func (v version) do(t *testing.T, c plainmap.Refused, full bool) version {
	t.Helper()
	is, r := v.is.Do(c.Call, full)
	want, answer := v.want.do(c, full)
	if r != answer {
		t.Fatalf("of %q, full: %v, %#v answers %#v, not %#v", v.want, full, c.Call, r, answer)
	}
	return version{is, want}
}

// others are keys of which few are there, such that may not be among them.
func others() []string { return append(trial.Keys(), "a", "b", "c", "d") }

// check says whether the map has its pairs, and nothing else, however often it is asked.
func (v version) check(t *testing.T) {
	t.Helper()
	for range 2 {
		if n := v.is.Len(); n != len(v.want) {
			t.Fatalf("of %q Len = %d", v.want, n)
		}
		if l := v.is.Keys(); !slices.Equal(l, v.want.keys()) {
			t.Fatalf("of %q Keys = %q", v.want, l)
		}
		for _, key := range append(v.want.keys(), others()...) {
			val, had := v.want.get(key)
			if is, ok := v.is.Get(key); is != val || ok != had {
				t.Fatalf("of %q Get(%q) = %q, %v", v.want, key, is, ok)
			}
		}
	}
}

// checkSame says whether the map is the same as one that is made of its pairs anew, in their order, and in the other one.
func (v version) checkSame(t *testing.T) {
	t.Helper()
	back := slices.Clone(v.want)
	slices.Reverse(back)
	for _, o := range []Map{v.is, mapOf(t, v.want), mapOf(t, back)} {
		if !v.is.Same(o) || !o.Same(v.is) {
			t.Fatalf("of %q, twice, Same = %v, %v", v.want, v.is.Same(o), o.Same(v.is))
		}
	}
}
