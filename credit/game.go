package credit

import (
	"iter"

	"dugout/api"
	"dugout/judge"
	"dugout/rule"
)

// game is a list of plays none of which breaks a rule, with the states before them, and a complete list of judgments.
type game struct {
	plays    []api.Play
	states   []rule.State
	complete []api.Judgment
}

// newGame returns a game without judgments.
func newGame(plays []api.Play) (game, api.Errno) {
	states, _, _, e := rule.Replay(plays)
	if e != api.OK {
		return game{}, e
	}
	return game{plays: plays, states: states}, api.OK
}

// newJudged returns a game with the complete list of some judgments.
func newJudged(plays []api.Play, l []api.Judgment) (game, api.Errno) {
	complete, e := judge.Complete(plays, l)
	if e != api.OK {
		return game{}, e
	}
	g, e := newGame(plays)
	g.complete = complete
	return g, e
}

// checkLists returns the first error of a game and of lists of its judgments.
func checkLists(plays []api.Play, lists ...[]api.Judgment) api.Errno {
	for _, l := range lists {
		if _, e := judge.CheckJudgments(plays, l); e != api.OK {
			return e
		}
	}
	return api.OK
}

func checkIndex(plays []api.Play, at int) api.Errno {
	if !within(at, 0, len(plays)-1) {
		return api.ErrUnknown
	}
	return api.OK
}

// scene returns the play with an index, one of the game.
func (g game) scene(at int) scene {
	s := scene{at: at, play: g.plays[at], state: g.states[at], judgments: judge.Of(g.complete, at)}
	s.scored, _ = rule.Scored(s.state, s.play)
	s.left, _ = rule.Left(s.state, s.play)
	return s
}

// scenes visits the plays of the game.
func (g game) scenes() iter.Seq[scene] {
	return func(yield func(scene) bool) {
		for at := range g.plays {
			if !yield(g.scene(at)) {
				return
			}
		}
	}
}

func (g game) credits() []Credit {
	var l []Credit
	for s := range g.scenes() {
		l = append(l, s.credits()...)
	}
	return l
}

// Credits returns the credits of a play.
func Credits(plays []api.Play, l []api.Judgment, play int) ([]Credit, api.Errno) {
	if e := first(checkLists(plays, l), checkIndex(plays, play)); e != api.OK {
		return nil, e
	}
	g, e := newJudged(plays, l)
	if e != api.OK {
		return nil, e
	}
	return g.scene(play).credits(), api.OK
}

// All returns the credits of all plays of a game.
func All(plays []api.Play, l []api.Judgment) ([]Credit, api.Errno) {
	g, e := newJudged(plays, l)
	if e != api.OK {
		return nil, e
	}
	return g.credits(), api.OK
}

// Double returns the fielders who took part in a double play.
func Double(plays []api.Play, play int) ([]int, api.Errno) {
	g, e := newGame(plays)
	if e = first(e, checkIndex(plays, play)); e != api.OK {
		return nil, e
	}
	t := tally{}
	g.scene(play).countDouble(t)
	var fielders []int
	for i := range positions {
		if t[i+1] > 0 {
			fielders = append(fielders, i+1)
		}
	}
	return fielders, api.OK
}
