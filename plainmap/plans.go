package plainmap

import (
	"quietus/calls"
	"quietus/trial"
)

// Plan is a room, each worker's calls, and how many steps each of them, and the one that frees, takes ahead of all else, in order.
type Plan struct {
	Room  int
	Lists [][]calls.Call
	Ahead []int
}

// fewWays are plans of short calls, by marks, of which the ways can be gone through: so many are taken ahead that they are few enough.
func fewWays() []Plan {
	var l []Plan
	for _, c := range []struct {
		words string
		room  int
		ahead []int
	}{
		{"+a ga", 1, nil},
		{"+a!x -a", 2, nil},
		{"2x 2x", 1, nil},
		{"+a +b", 1, nil},
		{"ga ga ga", 1, []int{3, 3, 2}},
		{"+a -a ga", 1, []int{5, 1, 4}},
		{"+a +a ga", 1, []int{1, 3, 1}},
		{"+a-a ga", 1, []int{12, 1}},
		{"+a-a ga !x", 1, []int{12, 4}},
		{"+a+a ga", 2, []int{13, 2}},
		{"+aga ga!xga", 2, []int{9, 2}},
		{"+a+a+a gaga", 3, []int{24, 8}},
		{"+a-a+a gb", 2, []int{20, 3}},
		{"+a2x ga", 1, []int{14, 1}},
		{"+a2x1x gaga", 1, []int{34, 8}},
		{"+a+b2x ga", 2, []int{22, 2}},
		{"+a2x -a ga", 1, []int{14, 3, 4}},
		{"+a2x -a ga", 1, []int{24, 4, 4}},
		{"2x +a 2x", 1, []int{2, 3, 1}},
	} {
		l = append(l, Plan{Room: c.room, Lists: Lists(c.words), Ahead: c.ahead})
	}
	return l
}

// FewWays goes through all ways in which the steps of worlds of several plans can be mixed: of a few short calls of several workers, in small arenas, beside the one that frees.
func FewWays(t trial.T, fresh func(p Plan) trial.World) {
	t.Helper()
	for _, p := range fewWays() {
		if ends := trial.Explore(func() trial.World { return fresh(p) }); ends < 15 {
			t.Fatalf("of %v there are %d ways alone", p, ends)
		}
	}
}

// PickLists are so many lists of so many calls at most, that are picked, each with room behind its end.
func PickLists(next func(n int) int, workers, most int) [][]calls.Call {
	l := make([][]calls.Call, workers, workers+2)
	for number := range l {
		own := make([]calls.Call, 0, most+3)
		for range next(most + 1) {
			own = append(own, PickFew(next).Call)
		}
		l[number] = own
	}
	return l
}

// PickPlan is a plan of so many workers, of as many calls each, at most, that are picked, in a small arena.
func PickPlan(next func(n int) int, workers, most int) Plan {
	return Plan{Room: 1 + next(12), Lists: PickLists(next, workers, most)}
}
