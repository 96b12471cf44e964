package legal

import (
	"slices"

	"dugout/api"
	"dugout/play"
	"dugout/rule"
)

// CheckGoal returns the first error of a goal, or OK.
func CheckGoal(g Goal) api.Errno {
	if !within(g.Outs, 0, MaxGoal) || !within(g.Runs, 0, MaxGoal) || !within(g.Turns, 0, MaxGoal) {
		return api.ErrRange
	}
	return api.OK
}

// Meets reports whether a state meets a goal from another one.
func Meets(from, s rule.State, g Goal) (bool, api.Errno) {
	if e := first(checkOn(from), rule.CheckState(s), CheckGoal(g)); e != api.OK {
		return false, e
	}
	return meets(from, s, g), api.OK
}

// Shortest returns a shortest way to a goal.
func Shortest(s rule.State, f Family, g Goal, plays int) ([]api.Play, api.Errno) {
	if e := first(checkOn(s), CheckFamily(f), CheckGoal(g), checkDepth(plays)); e != api.OK {
		return nil, e
	}
	list, e := reach(s, f, plays)
	if e != api.OK {
		return nil, e
	}
	at, isFound := findGoal(s, list, g)
	if !isFound {
		return nil, api.ErrNone
	}
	return wayTo(list, at), api.OK
}

// CheckPath returns the index of the first play that is none of a path, or -1.
func CheckPath(s rule.State, f Family, l []api.Play) (int, api.Errno) {
	if e := first(checkOn(s), CheckFamily(f)); e != api.OK {
		return -1, e
	}
	if len(l) > MaxPath {
		return -1, api.ErrMany
	}
	for i, p := range l {
		next, e := step(s, f, p)
		if e != api.OK {
			return i, e
		}
		s = next
	}
	return -1, api.OK
}

func meets(from, s rule.State, g Goal) bool {
	side := from.Half
	if s.Score[side]-from.Score[side] < g.Runs {
		return false
	}
	sameHalf := !s.Over && s.Inning == from.Inning && s.Half == from.Half
	if g.Half {
		return !sameHalf
	}
	return sameHalf && s.Outs-from.Outs >= g.Outs && steps(from.Next[side], s.Next[side]) >= g.Turns
}

// steps returns how many steps lead from a slot to another one.
func steps(from, to int) int {
	return (to - from + slots) % slots
}

// findGoal returns the index of the first state within reach that meets a goal. The states stand by the lengths of their shortest ways, and those with the same length by the order of these ways: so the first one has the way that is wanted.
func findGoal(from rule.State, list []found, g Goal) (int, bool) {
	at := -1
search:
	for i, x := range list {
		if meets(from, x.state, g) {
			at = i
			break search
		}
	}
	return at, at >= 0
}

// wayTo returns the plays by which a state within reach is found first.
func wayTo(list []found, at int) []api.Play {
	var plays []api.Play
	for list[at].plays > 0 {
		plays = append(plays, list[at].last)
		at = list[at].before
	}
	slices.Reverse(plays)
	return plays
}

// step returns the state after a play of a family.
func step(s rule.State, f Family, p api.Play) (rule.State, api.Errno) {
	if e := first(play.CheckPlay(p), checkNotOver(s)); e != api.OK {
		return rule.State{}, e
	}
	if !isCombination(s, f, p) {
		return rule.State{}, api.ErrNone
	}
	next, _, e := rule.Apply(s, p)
	return next, e
}
