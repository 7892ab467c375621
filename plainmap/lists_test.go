package plainmap

import (
	"slices"
	"testing"

	"quietus/calls"
	"quietus/trial"
)

// Lists have a call for each mark and its key, of the kind that the mark says.
func TestLists(t *testing.T) {
	is := Lists("+a-bgc !d4x+a")
	want := [][]calls.Call{
		{{Kind: putKind, Key: "a"}, {Kind: deleteKind, Key: "b"}, {Key: "c"}},
		{{Kind: 4, Key: "d"}, {Kind: resizeKind, Size: 4}, {Kind: putKind, Key: "a", Val: "!d4x"}},
	}
	if len(is) != 2 || !slices.Equal(is[0], want[0]) || !slices.Equal(is[1], want[1]) {
		t.Errorf("the lists are %v", is)
	}
}

// All are those that may be, and those that may not, one behind the other.
func TestAll(t *testing.T) {
	keys := trial.KeysByTurns(2, 3)
	may, not := Of(keys), AllRefused()
	all := All(keys)
	if len(all) != len(may)+len(not) || !slices.Equal(all[:len(may)], may) || all[len(may)] != not[0].Call || all[len(all)-1] != not[len(not)-1].Call {
		t.Errorf("all are %v", all)
	}
}

// Long lists have so many calls, the same each time, and calls in the room behind their ends; spoilt, none is what it was.
func TestLong(t *testing.T) {
	for _, n := range []int{0, 1, 50, 300} {
		l := Long(n, 5)
		kinds := map[calls.Kind]bool{}
		for _, c := range l {
			kinds[c.Kind] = true
		}
		if len(l) != n || cap(l) != n+5 || n >= 50 && len(kinds) < 4 || !slices.Equal(l, Long(n, 0)) {
			t.Errorf("of %d calls the list is %v", n, l)
		}
		was := slices.Clone(l[:cap(l)])
		Spoil(l)
		for i, c := range l[:cap(l)] {
			if c == was[i] {
				t.Errorf("of %d calls, spoilt, the call %d is %v", n, i, c)
			}
		}
	}
}
