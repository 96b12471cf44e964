package judge

import "dugout/api"

// Cleans returns how the moves of a play would have gone without misplays.
func Cleans(plays []api.Play, l []api.Judgment, play int) ([]Clean, api.Errno) {
	g, e := judged(plays, l)
	if e = first(e, g.hasPlay(play)); e != api.OK {
		return nil, e
	}
	complete, e := g.complete(l)
	if e != api.OK {
		return nil, e
	}
	var cleans []Clean
	for s := range g.spots(play) {
		cleans = append(cleans, s.clean(filter(complete, s.isOwn)))
	}
	return cleans, api.OK
}

// Misplays returns the misplays of a game.
func Misplays(plays []api.Play, l []api.Judgment) ([]api.Judgment, api.Errno) {
	complete, e := Complete(plays, l)
	if e != api.OK {
		return nil, e
	}
	return filter(complete, isMisplay), api.OK
}

// Errors returns how many errors each fielder of a side has, and at the index 0 their sum.
func Errors(plays []api.Play, l []api.Judgment, side int) ([10]int, api.Errno) {
	g, e := judged(plays, l)
	if e != api.OK {
		return [10]int{}, e
	}
	if !within(side, 0, 1) {
		return [10]int{}, api.ErrSide
	}
	complete, e := g.complete(l)
	if e != api.OK {
		return [10]int{}, e
	}
	var errors [10]int
	for _, j := range complete {
		if isError(j) && g.inField(j.Play) == side {
			errors[j.Fielder]++
			errors[0]++
		}
	}
	return errors, api.OK
}

// clean returns the clean move of a move, with its own judgments.
func (s spot) clean(own []api.Judgment) Clean {
	m := s.move
	c := Clean{From: m.From, To: m.To}
	f, isFault := find(own, fault)
	switch {
	case m.Out, has(own, life), m.From == 0 && has(own, passed):
		c.To, c.Out = 0, true
	case isFault:
		c.To = f.Base
	case has(own, passed):
		c.To = m.From
	}
	return c
}

// inField returns the side that is in the field in a play.
func (g game) inField(play int) int {
	return 1 - g.states[play].Half
}

func isMisplay(j api.Judgment) bool {
	return isError(j) || j.Kind == passed
}

// isError reports whether a judgment blames a fielder.
func isError(j api.Judgment) bool {
	return j.Kind == life || j.Kind == fault
}
