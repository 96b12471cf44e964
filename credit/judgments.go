package credit

import (
	"slices"

	"dugout/api"
	"dugout/judge"
)

// Changed returns the plays whose credits two lists of judgments give differently.
func Changed(plays []api.Play, a, b []api.Judgment) ([]int, api.Errno) {
	if e := checkLists(plays, a, b); e != api.OK {
		return nil, e
	}
	left, right, e := newPair(plays, a, b)
	if e != api.OK {
		return nil, e
	}
	var changed []int
	for s := range left.scenes() {
		if !slices.Equal(s.credits(), right.scene(s.at).credits()) {
			changed = append(changed, s.at)
		}
	}
	return changed, api.OK
}

// Effect returns how totals change when a judgment is set.
func Effect(plays []api.Play, l []api.Judgment, j api.Judgment) ([]Total, api.Errno) {
	set, e := judge.Set(plays, l, j)
	if e != api.OK {
		return nil, e
	}
	before, after, e := newPair(plays, l, set)
	if e != api.OK {
		return nil, e
	}
	s := sums{}
	s.addCredits(after.credits(), 1)
	s.addCredits(before.credits(), -1)
	return s.totals()
}

// Rests returns the credits that rest on a judgment.
func Rests(plays []api.Play, l []api.Judgment, j api.Judgment) ([]Credit, api.Errno) {
	// The error of the judgment is that of Set, which also tells if the list has no place for it, before it is told that the list does not have it.
	if _, e := judge.Set(plays, l, j); e != api.OK {
		return nil, e
	}
	without, e := judge.Reverse(plays, l, j)
	if e != api.OK {
		return nil, e
	}
	with, other, e := newPair(plays, l, without)
	if e != api.OK {
		return nil, e
	}
	// A judgment changes the credits of its play alone.
	others := other.scene(j.Play).credits()
	return filter(with.scene(j.Play).credits(), func(c Credit) bool { return !slices.Contains(others, c) }), api.OK
}

// newPair returns a game with the complete lists of two lists of judgments.
func newPair(plays []api.Play, a, b []api.Judgment) (game, game, api.Errno) {
	left, e := newJudged(plays, a)
	if e != api.OK {
		return game{}, game{}, e
	}
	right, e := newJudged(plays, b)
	if e != api.OK {
		return game{}, game{}, e
	}
	return left, right, api.OK
}
