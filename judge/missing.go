package judge

import (
	"slices"

	"dugout/api"
)

// Asks returns the moves of a play that ask for a judgment.
func Asks(plays []api.Play, play int) ([]api.Move, api.Errno) {
	g, e := newGame(plays)
	if e = first(e, g.hasPlay(play)); e != api.OK {
		return nil, e
	}
	var moves []api.Move
	for s := range g.spots(play) {
		if _, asks := s.asks(); asks {
			m := s.move
			m.By = slices.Clone(m.By)
			moves = append(moves, m)
		}
	}
	return moves, api.OK
}

// Missing returns the judgments that are missing.
func Missing(plays []api.Play, l []api.Judgment) ([]api.Judgment, api.Errno) {
	g, e := judged(plays, l)
	if e != api.OK {
		return nil, e
	}
	return g.missing(l)
}

// Complete returns the complete list.
func Complete(plays []api.Play, l []api.Judgment) ([]api.Judgment, api.Errno) {
	g, e := judged(plays, l)
	if e != api.OK {
		return nil, e
	}
	return g.complete(l)
}

// Of returns the judgments about a play.
func Of(l []api.Judgment, play int) []api.Judgment {
	return filter(l, func(j api.Judgment) bool { return j.Play == play })
}

// asks returns the group of kinds for one of which a move asks, if it does.
func (s spot) asks() ([3]string, bool) {
	switch {
	case s.isBatted():
		return groups[batted], true
	case s.isGotAway():
		return groups[gotAway], true
	case s.isStolen():
		return groups[stolen], true
	}
	return [3]string{}, false
}

func (g game) missing(l []api.Judgment) ([]api.Judgment, api.Errno) {
	byPlay := byPlays(l)
	var missing []api.Judgment
	for at := range g.plays {
		for s := range g.spots(at) {
			own := filter(byPlay[at], s.isOwn)
			if s.lacks(own) {
				missing = append(missing, s.supplied(byPlay[at], own))
			}
		}
	}
	if len(l)+len(missing) > api.MaxJudgments {
		return nil, api.ErrMany
	}
	return missing, api.OK
}

// lacks reports whether a move asks for a judgment, and none of its own ones is of a kind for which it asks.
func (s spot) lacks(own []api.Judgment) bool {
	group, asks := s.asks()
	return asks && !slices.ContainsFunc(own, func(j api.Judgment) bool { return isIn(group, j.Kind) })
}

// supplied returns the judgment that a move lacks. The judgments are those about its play, and its own ones of these.
func (s spot) supplied(about, own []api.Judgment) api.Judgment {
	switch {
	case s.isStolen():
		return s.judgment(steal, 0)
	case s.isGotAway() && has(about, passed):
		return s.judgment(passed, 0)
	case s.isGotAway():
		return s.judgment(wild, 0)
	case has(own, sacrifice):
		return s.judgment(choice, 0)
	}
	if f, found := find(own, fault); found {
		return s.judgment(hit, f.Base)
	}
	return s.judgment(hit, s.move.To)
}

func (s spot) judgment(name string, base int) api.Judgment {
	return api.Judgment{Play: s.at, From: s.move.From, Kind: name, Base: base, Rule: kinds()[name].rule}
}

func (g game) complete(l []api.Judgment) ([]api.Judgment, api.Errno) {
	missing, e := g.missing(l)
	if e != api.OK {
		return nil, e
	}
	complete := slices.Concat(l, missing)
	slices.SortFunc(complete, compare)
	return complete, api.OK
}

// byPlays returns the judgments about each play, in the order of a list.
func byPlays(l []api.Judgment) map[int][]api.Judgment {
	byPlay := map[int][]api.Judgment{}
	for _, j := range l {
		byPlay[j.Play] = append(byPlay[j.Play], j)
	}
	return byPlay
}

// find returns the first judgment of a kind, if there is one.
func find(l []api.Judgment, name string) (api.Judgment, bool) {
	for _, j := range l {
		if j.Kind == name {
			return j, true
		}
	}
	return api.Judgment{}, false
}

func has(l []api.Judgment, name string) bool {
	_, found := find(l, name)
	return found
}
