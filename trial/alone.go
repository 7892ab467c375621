package trial

import (
	"slices"

	"quietus/arena"
	"quietus/mem"
)

// enough is more steps than a frame may take of a small memory, whatever that is like.
const enough = 1000

// Changed is the handle of the one node that is another one than ahead; 0, if there isn't one alone.
func (s Seen) Changed(before Seen) arena.Handle {
	var l []arena.Handle
	for _, place := range before.Places {
		if node, live := s.Node(place.Handle); !live || node != place.Node {
			l = append(l, place.Handle)
		}
	}
	if len(l) != 1 {
		return 0
	}
	return l[0]
}

// differ is in how many places two rows of a length differ.
func differ[E comparable](l, o []E) int {
	n := 0
	for i, e := range l {
		if o[i] != e {
			n++
		}
	}
	return n
}

// unlinked are nodes without their Next.
func unlinked(l []Place) []Place {
	l = slices.Clone(l)
	for i := range l {
		l[i].Node.Next = 0
	}
	return l
}

// OneAtMost says whether a step of one who has another table count changed one thing at most: a word, a lock, a node's Next, or that there is a table more. All else has to be as it was, but the flag, that may have come up.
func OneAtMost(t T, before, after Seen, what string) {
	t.Helper()
	same := slices.Equal(unlinked(before.Places), unlinked(after.Places)) && slices.Equal(before.Waiting, after.Waiting) &&
		len(before.Holders) == len(after.Holders) && len(before.Words) <= len(after.Words) && len(before.Tables) <= len(after.Tables) &&
		(len(before.Words) == len(after.Words)) == (len(before.Tables) == len(after.Tables)) &&
		before.Workers == after.Workers && before.Free == after.Free && (after.Fault || !before.Fault)
	if !same {
		t.Fatalf("%s: a step changes %v to %v", what, before, after)
	}
	changes := differ(before.Words, after.Words) + differ(before.Holders, after.Holders) + differ(before.Places, after.Places) +
		differ(before.Tables, after.Tables) + len(after.Tables) - len(before.Tables)
	if changes > 1 {
		t.Fatalf("%s: a step changes %v to %v", what, before, after)
	}
}

// Alone has a frame take all its steps, of a memory that may be as it mustn't be: for each of them it has to be ready, there aren't many, and each changes one thing at most.
func Alone(t T, m *mem.Mem, f Failing, what string) {
	t.Helper()
	steps := 0
	for done := false; !done; steps++ {
		before := Look(m)
		if !f.Ready(m) || steps > enough {
			t.Fatalf("%s: behind %d steps it isn't done, or not ready", what, steps)
		}
		done = f.Step(m)
		OneAtMost(t, before, Look(m), what)
	}
}
