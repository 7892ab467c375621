package model

import (
	"fmt"
	"slices"
	"strings"
	"testing"

	"quietus/api"
	"quietus/plainmap"
)

// P19.2: of no key, of one, and of each number up to many, as they come, and as they go: Len, each one's Get, and Keys.
func TestMany(t *testing.T) {
	var v version
	v.check(t)
	for i := range 150 {
		v = v.do(t, plainmap.Refused{Call: put(fmt.Sprint(i*7%150), fmt.Sprint(i))}, false)
		if v.is.Len() != i+1 {
			t.Fatalf("behind %d puts Len = %d", i+1, v.is.Len())
		}
		v.check(t)
	}
	v.checkSame(t)
	for i := range 150 {
		v = v.do(t, plainmap.Refused{Call: del(fmt.Sprint(i * 11 % 150))}, false)
		if v.is.Len() != 149-i {
			t.Fatalf("behind %d deletes Len = %d", i+1, v.is.Len())
		}
		v.check(t)
	}
	v.checkSame(t)
}

// P19.2: Get of a key that is none of those there, though it begins as one, or ends so, or is one but for a byte: empty, false; of one whose value is empty: empty, true; of any text, too, that may be no key.
func TestGet(t *testing.T) {
	long := strings.Repeat("k", 32)
	m := mapOf(t, pairs{{"key", "v"}, {"Key", ""}, {"key\x00", "w"}, {long, "l"}, {"\xff", "f"}})
	for _, c := range []struct {
		key, val string
		had      bool
	}{
		{"key", "v", true}, {"Key", "", true}, {"key\x00", "w", true}, {long, "l", true}, {"\xff", "f", true},
		{"", "", false}, {"k", "", false}, {"ke", "", false}, {"ey", "", false}, {"keys", "", false}, {"KEY", "", false}, {"key\x00\x00", "", false}, {"\x00key", "", false},
		{long[1:], "", false}, {long + "k", "", false}, {strings.Repeat("k", 1<<20), "", false}, {"\xfe", "", false}, {"\uFFFD", "", false}, {"v", "", false},
	} {
		for range 2 {
			if val, had := m.Get(c.key); val != c.val || had != c.had {
				t.Errorf("Get(%.40q) = %q, %v", c.key, val, had)
			}
		}
	}
}

// P19.2: Keys are rising byte by byte, written out: a key ahead of those that begin with it, great letters ahead of small ones, and bytes that are no text as others; in whatever order they were put in, each time the same.
func TestKeysRise(t *testing.T) {
	long := strings.Repeat("a", 32)
	want := []string{"\x00", "\x00\x00", "\x01", " ", "10", "2", "A", "B", "a", "a\x00", long[:31], long, "aa\xff", "ab", "b", "z", "~", "\x7f", "\x80", "\xc3", "ä", "\xc3\xff", "日", "\uFFFD", "\xff", "\xff\xff"}
	for at := range want {
		back := slices.Concat(want[at:], want[:at])
		slices.Reverse(back)
		for _, keys := range [][]string{slices.Concat(want[at:], want[:at]), back} {
			var l pairs
			for _, key := range keys {
				l = append(l, pair{key, ""})
			}
			m := mapOf(t, l)
			for range 5 {
				if is := m.Keys(); !slices.Equal(is, want) {
					t.Fatalf("of %q Keys = %q", l, is)
				}
			}
		}
	}
}

// P19.2, R3, R4: what Keys answered may be changed by whoever asked, with the room behind its end: nothing of the map is, nor of what was answered else; of no key it is empty.
func TestKeysChanged(t *testing.T) {
	for n := range 20 {
		var v version
		for i := range n {
			v = v.do(t, plainmap.Refused{Call: put(fmt.Sprint(i), "v")}, false)
		}
		other, mine := v.is.Keys(), v.is.Keys()
		mine = mine[:cap(mine)]
		for i := range mine {
			mine[i] = "spoiled"
		}
		v.check(t)
		if !slices.Equal(other, v.want.keys()) {
			t.Fatalf("the other keys are %q", other)
		}
		behind := v.do(t, plainmap.Refused{Call: put("new", "v")}, false)
		behind.check(t)
	}
}

// P19.2: Same of maps whose keys and values are the same, by whatever calls they came, and of such that differ in one key, in one value, or in how many keys there are, be they empty: both ways the same.
func TestSame(t *testing.T) {
	l := some()
	as := func(l pairs) Map { return mapOf(t, l) }
	behind, _ := as(l.with("d", "w")).Do(del("d"), true)
	again, _ := as(l.with("a", "other")).Do(put("a", "x"), false)
	refused, r := as(l).Do(put("a", "y"), true)
	if r.Err != api.ErrFull {
		t.Errorf("the answer is %#v", r)
	}
	gone, _ := as(pairs{{"a", ""}}).Do(del("a"), false)
	for i, c := range []struct {
		m, n Map
		want bool
	}{
		{Map{}, Map{}, true},
		{Map{}, gone, true},
		{as(l), as(l), true},
		{as(l), as(pairs{l[2], l[1], l[0]}), true},
		{as(l), behind, true},
		{as(l), again, true},
		{as(l), refused, true},
		{Map{}, as(l), false},
		{Map{}, as(pairs{{"a", ""}}), false},
		{gone, as(pairs{{"a", ""}}), false},
		{as(l), as(l.without("b")), false},
		{as(l), as(l.without("a")), false},
		{as(l), as(l.with("d", "")), false},
		{as(l), as(l.with("a", "y")), false},
		{as(l), as(l.with("a", "")), false},
		{as(l), as(l.with("b", "y")), false},
		{as(l), as(l.without("a").with("d", "x")), false},
		{as(l), as(l.without("b").with("d", "")), false},
		{as(l), as(pairs{{"a", "z"}, {"c", "x"}, {"b", ""}}), false},
		{as(pairs{{"a", ""}}), as(pairs{{"b", ""}}), false},
		{as(pairs{{"a", "b"}}), as(pairs{{"b", "a"}}), false},
		{as(pairs{{"a", "bc"}}), as(pairs{{"ab", "c"}}), false},
		{as(pairs{{"a", "x"}}), as(pairs{{"a\x00", "x"}}), false},
		{as(pairs{{"a", "x"}}), as(pairs{{"A", "x"}}), false},
	} {
		for range 3 {
			if c.m.Same(c.n) != c.want || c.n.Same(c.m) != c.want || !c.m.Same(c.m) || !c.n.Same(c.n) {
				t.Errorf("of the maps %d, of %q and %q, Same = %v, %v", i, c.m.Keys(), c.n.Keys(), c.m.Same(c.n), c.n.Same(c.m))
			}
		}
	}
}

// P19.2: of many keys, of which any one differs, in itself, or in its value, Same is false.
func TestSameOfMany(t *testing.T) {
	var l pairs
	for i := range 60 {
		l = append(l, pair{fmt.Sprint(i), "v"})
	}
	m := mapOf(t, l)
	for i := range l {
		for _, p := range []pair{{l[i].key, "w"}, {l[i].key, ""}, {"other", "v"}} {
			n := mapOf(t, l.without(l[i].key).with(p.key, p.val))
			if m.Same(n) || n.Same(m) || n.Len() != m.Len() {
				t.Errorf("with %q for the pair %d Same = %v, %v", p, i, m.Same(n), n.Same(m))
			}
		}
	}
}
