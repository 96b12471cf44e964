package legal

import (
	"dugout/api"
	"dugout/rule"
)

// found is a state within reach, with the way by which it is found first.
type found struct {
	state  rule.State
	plays  int      // how many plays lead to it
	before int      // the index of the state before the last one of them
	last   api.Play // the last one of them
}

// Follows returns the states after the plays of a family.
func Follows(s rule.State, f Family) ([]rule.State, api.Errno) {
	if e := checkListed(s, f); e != api.OK {
		return nil, e
	}
	var states []rule.State
	known := map[rule.State]bool{}
	for _, next := range follow(s, f) {
		if !known[next] {
			known[next] = true
			states = append(states, next)
		}
	}
	return states, api.OK
}

// Reach returns the states within reach.
func Reach(s rule.State, f Family, plays int) ([]rule.State, api.Errno) {
	if e := first(checkOn(s), CheckFamily(f), checkDepth(plays)); e != api.OK {
		return nil, e
	}
	list, e := reach(s, f, plays)
	if e != api.OK {
		return nil, e
	}
	var states []rule.State
	for _, x := range list {
		states = append(states, x.state)
	}
	return states, api.OK
}

// Paths returns the numbers of paths.
func Paths(s rule.State, f Family, plays int) ([]int, api.Errno) {
	if e := first(checkOn(s), CheckFamily(f), checkDepth(plays)); e != api.OK {
		return nil, e
	}
	numbers, ends := []int{1}, map[rule.State]int{s: 1}
	for range plays {
		longer, e := lengthen(ends, f)
		if e != api.OK {
			return nil, e
		}
		n := 0
		for _, paths := range longer {
			n += paths
		}
		if n > api.MaxNumber {
			return nil, api.ErrLarge
		}
		numbers, ends = append(numbers, n), longer
	}
	return numbers, api.OK
}

func checkDepth(plays int) api.Errno {
	if !within(plays, 0, MaxDepth) {
		return api.ErrRange
	}
	return api.OK
}

// reach returns the states within reach, in the order in which they are found.
func reach(s rule.State, f Family, plays int) ([]found, api.Errno) {
	list, known := []found{{state: s}}, map[rule.State]bool{s: true}
	for at := 0; at < len(list); at++ {
		here := list[at]
		if here.plays == plays || here.state.Over {
			continue
		}
		if e := checkSize(here.state, f); e != api.OK {
			return nil, e
		}
		for p, next := range follow(here.state, f) {
			if known[next] {
				continue
			}
			if len(list) == MaxStates {
				return nil, api.ErrMany
			}
			known[next] = true
			list = append(list, found{next, here.plays + 1, at, p})
		}
	}
	return list, api.OK
}

// lengthen returns how many paths with one play more lead to each state, by how many paths lead to each state without it.
func lengthen(ends map[rule.State]int, f Family) (map[rule.State]int, api.Errno) {
	// A family that is too large in any state is told before too many states are.
	for s := range ends {
		if !s.Over && checkSize(s, f) != api.OK {
			return nil, api.ErrLimit
		}
	}
	longer := map[rule.State]int{}
	for s, paths := range ends {
		if s.Over {
			continue
		}
		for _, next := range follow(s, f) {
			longer[next] += paths
			if len(longer) > MaxStates {
				return nil, api.ErrMany
			}
		}
	}
	return longer, api.OK
}
