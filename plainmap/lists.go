package plainmap

import (
	"strconv"
	"strings"

	"quietus/calls"
	"quietus/trial"
)

// All are calls of each kind, of a table of such keys: those that may be, and those that may not.
func All(keys [][]string) []calls.Call {
	l := Of(keys)
	for _, c := range AllRefused() {
		l = append(l, c.Call)
	}
	return l
}

// List are calls by marks, each with a key, a letter, behind it: + a Put, - a Delete, g a Get, ! one that is refused; else a Resize, to that digit.
func List(marks string) []calls.Call {
	var l []calls.Call
	for i := 0; i < len(marks); i += 2 {
		key := marks[i+1 : i+2]
		switch mark := marks[i]; mark {
		case '+':
			l = append(l, calls.Call{Kind: putKind, Key: key, Val: marks[:i]})
		case '-':
			l = append(l, calls.Call{Kind: deleteKind, Key: key})
		case 'g':
			l = append(l, calls.Call{Kind: getKind, Key: key})
		case '!':
			l = append(l, calls.Call{Kind: 4, Key: key})
		default:
			l = append(l, calls.Call{Kind: resizeKind, Size: int(mark - '0')})
		}
	}
	return l
}

// Lists are such lists, one for each word.
func Lists(words string) [][]calls.Call {
	var l [][]calls.Call
	for _, marks := range strings.Fields(words) {
		l = append(l, List(marks))
	}
	return l
}

// Long is a list of so many calls, of all kinds, with room behind its end, in which there are calls, too.
func Long(n, room int) []calls.Call {
	next := trial.Picker(uint32(n))
	var l []calls.Call
	for len(l) < n+room {
		c := PickAny(next).Call
		// Few sizes, as each resize makes tables more, for which there is no room behind some time.
		c.Size = 1 << next(3)
		l = append(l, c)
	}
	return l[: n : n+room]
}

// Spoil changes a list, with the room behind its end.
func Spoil(l []calls.Call) {
	l = l[:cap(l)]
	for i := range l {
		l[i] = calls.Call{Kind: putKind, Key: "spoiled", Val: strconv.Itoa(i)}
	}
}
