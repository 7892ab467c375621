// Package beside is what the tests of those layers share that have another table count: what goes on beside them. Workers get keys, and one frees what waits; or they put in, and take out, by the locks that each has to hold. The layers themselves don't use it.
package beside

import (
	"slices"
	"strconv"

	"quietus/get"
	"quietus/mem"
	"quietus/trial"
)

// enough is more steps than any get of the tests has to take.
const enough = 100000

// Asked is a key, and whether it is there.
type Asked struct {
	Key   string
	There bool
}

// AllAsked are keys that are there, bucket by bucket, and of each bucket of n one more that isn't.
func AllAsked(keys [][]string, n int) []Asked {
	there := slices.Concat(keys...)
	var l []Asked
	for _, key := range there {
		l = append(l, Asked{key, true})
	}
	for bucket := range n {
		other := slices.DeleteFunc(trial.KeysOf(bucket, n, len(there)+1), func(key string) bool { return slices.Contains(there, key) })
		l = append(l, Asked{other[0], false})
	}
	return l
}

// Got says whether a get, with nothing beside it, finds what a key has in tables that are laid, or nothing, in no more steps than five and one for each of so many nodes.
func Got(t trial.T, m *mem.Mem, worker int, a Asked, nodes int, what string) {
	t.Helper()
	g := get.New(worker, a.Key)
	if n, done := mem.Finish(m, g, enough); !done || n > 5+nodes {
		t.Fatalf("%s: a get of %q takes %d steps, and is done: %v", what, a.Key, n, done)
	}
	Found(t, m, g, a, what)
}

// Found says whether a get that is done found what it has to, and no handle that was stale was used.
func Found(t trial.T, m *mem.Mem, g *get.Get, a Asked, what string) {
	t.Helper()
	want := ""
	if a.There {
		want = trial.OwnVal(a.Key)
	}
	if val, had := g.Val(); val != want || had != a.There || m.Arena.Fault() {
		t.Fatalf("%s: a get of %q found %q, %v; the flag is up: %v", what, a.Key, val, had, m.Arena.Fault())
	}
}

// ManyKeys are keys of whatever kind, and many more.
func ManyKeys() []string {
	keys := trial.Keys()
	for i := range 150 {
		keys = append(keys, "more"+strconv.Itoa(i))
	}
	return keys
}

// AllGot says whether the table that counts has these keys, bucket by bucket, and gets, with nothing beside them, find each of them, and another one not.
func AllGot(t trial.T, m *mem.Mem, keys [][]string, what string) {
	t.Helper()
	trial.CheckTable(t, m, keys)
	all := slices.Concat(keys...)
	for _, key := range append(all, "none") {
		Got(t, m, 0, Asked{Key: key, There: key != "none"}, len(all), what)
	}
}
