package plainmap

import (
	"math"
	"slices"
	"strconv"
	"strings"

	"quietus/api"
	"quietus/calls"
	"quietus/trial"
)

// These are written out, so that tests don't lean on the names that they hold.
const (
	getKind    calls.Kind = 0
	putKind    calls.Kind = 1
	deleteKind calls.Kind = 2
	resizeKind calls.Kind = 3
	mostKey               = 32
)

// NotKinds are numbers that are no kind's: those next to the kinds, the least and the greatest one, and such whose low bits alone are a kind's.
func NotKinds() []calls.Kind {
	return []calls.Kind{-1, -2, -3, -4, 4, 5, 255, 256, 257, 65536, 65537, math.MinInt32, math.MaxInt32, math.MinInt, math.MinInt + 1, math.MinInt + 2, math.MaxInt, math.MaxInt - 1}
}

// Sizes are such that may be, and such that may not be.
func Sizes() []int {
	return []int{0, 1, 2, 3, 4, 65536, 65537, 131072, -1, -2, math.MinInt, math.MaxInt}
}

// Keys are keys of all kinds that may be.
func Keys() []string {
	return slices.DeleteFunc(trial.Keys(), func(key string) bool { return key == "" || len(key) > mostKey })
}

// Of are calls that may be, of a table of such keys: of each key that is there, and of one of each bucket that isn't, and to some sizes.
func Of(keys [][]string) []calls.Call {
	l := slices.Concat(keys...)
	for bucket := range keys {
		others := trial.KeysOf(bucket, len(keys), len(l)+1)
		l = append(l, others[len(others)-1])
	}
	var some []calls.Call
	for _, key := range l {
		some = append(some, calls.Call{Kind: getKind, Key: key}, calls.Call{Kind: putKind, Key: key, Val: "new"}, calls.Call{Kind: putKind, Key: key}, calls.Call{Kind: deleteKind, Key: key})
	}
	for _, size := range []int{1, 2, 4, 8, 3, 0, -1} {
		some = append(some, calls.Call{Kind: resizeKind, Size: size})
	}
	return some
}

// Refused is a call that may not be, and by what error it is refused.
type Refused struct {
	calls.Call
	Err api.Errno
}

// AllRefused are such calls, of each reason some, and of both.
func AllRefused() []Refused {
	long := strings.Repeat("x", mostKey+1)
	l := []Refused{
		{calls.Call{}, api.ErrKey},
		{calls.Call{Kind: getKind, Key: long}, api.ErrKey},
		{calls.Call{Kind: getKind, Val: "v", Size: 4}, api.ErrKey},
		{calls.Call{Kind: putKind, Val: "v"}, api.ErrKey},
		{calls.Call{Kind: putKind, Key: long, Val: "v"}, api.ErrKey},
		{calls.Call{Kind: putKind, Key: "k0", Val: long}, api.ErrKey},
		{calls.Call{Kind: putKind, Key: long, Val: long}, api.ErrKey},
		{calls.Call{Kind: deleteKind}, api.ErrKey},
		{calls.Call{Kind: deleteKind, Key: "\xff" + long}, api.ErrKey},
		{calls.Call{Kind: deleteKind, Key: long, Size: 16}, api.ErrKey},
	}
	for _, kind := range NotKinds() {
		for _, c := range []calls.Call{{Kind: kind}, {Kind: kind, Key: "k0", Val: "v", Size: 4}, {Kind: kind, Key: long, Val: long, Size: 3}} {
			l = append(l, Refused{c, api.ErrForm})
		}
	}
	return l
}

// AllWrong are calls that are answered with an error, whatever there is: those that may not be, and resizes to sizes that may not be.
func AllWrong() []Refused {
	l := AllRefused()
	for _, size := range Sizes() {
		if !slices.Contains(trial.Powers(), size) {
			l = append(l, Refused{calls.Call{Kind: resizeKind, Size: size}, api.ErrSize})
		}
	}
	return l
}

// Short are so few calls that all short rows of them can be gone through.
func Short() []calls.Call {
	return []calls.Call{
		{Kind: getKind, Key: "a"}, {Kind: getKind, Key: "b"}, {Kind: putKind, Key: "a", Val: "x"}, {Kind: putKind, Key: "a"}, {Kind: putKind, Key: "b", Val: "y"},
		{Kind: deleteKind, Key: "a"}, {Kind: deleteKind, Key: "b"}, {Kind: resizeKind, Size: 1}, {Kind: resizeKind, Size: 2}, {Kind: resizeKind, Size: 3},
	}
}

// pickVal is a value that may be, which is empty now and then.
func pickVal(next func(n int) int) string {
	return strings.Repeat(string([]byte{byte(next(256))}), []int{0, 1, 2, mostKey - 1, mostKey}[next(5)])
}

// pickSize is a size that may be, or, now and then, may not.
func pickSize(next func(n int) int) int {
	if next(6) == 0 {
		return Sizes()[next(len(Sizes()))]
	}
	return trial.Powers()[next(7)]
}

// Pick is a call that may be, of few keys more often than of others.
func Pick(next func(n int) int) calls.Call {
	keys := Keys()
	key := keys[next(len(keys))]
	if next(2) == 0 {
		key = keys[next(4)]
	}
	kind := []calls.Kind{getKind, putKind, putKind, putKind, deleteKind, resizeKind}[next(6)]
	return calls.Call{Kind: kind, Key: key, Val: pickVal(next), Size: pickSize(next)}
}

// pickRefused is one of those that are refused.
func pickRefused(next func(n int) int) Refused {
	l := AllRefused()
	return l[next(len(l))]
}

// PickAny is such a call, or, now and then, one that is refused.
func PickAny(next func(n int) int) Refused {
	if next(20) == 0 {
		return pickRefused(next)
	}
	return Refused{Call: Pick(next)}
}

// PickFew is a call of few keys, all of which others put in, too, who do whatever they may; or, now and then, one that is refused.
func PickFew(next func(n int) int) Refused {
	if next(12) == 0 {
		return pickRefused(next)
	}
	keys := []string{"k", "l", "kk", "m"}
	kinds := []calls.Kind{getKind, getKind, putKind, putKind, putKind, putKind, deleteKind, deleteKind, resizeKind}
	size := []int{1, 2, 4, 8, 3}[next(5)]
	return Refused{Call: calls.Call{Kind: kinds[next(len(kinds))], Key: keys[next(4)], Val: strconv.Itoa(next(100)), Size: size}}
}
