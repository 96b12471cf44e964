package box

import (
	"iter"
	"slices"

	"dugout/api"
	"dugout/credit"
	"dugout/judge"
	"dugout/lineup"
	"dugout/rule"
)

// game is a game without an error, with the states before each play, and after the last one. What lower layers return for it has no error, either.
type game struct {
	Game
	states []rule.State
}

// scene is a play of a game, with its credits and those who play.
type scene struct {
	credits []credit.Credit
	teams   lineup.Teams
}

// CheckGame returns the first error of a game, or OK.
func CheckGame(g Game) api.Errno {
	_, e := newGame(g)
	return e
}

// Compute returns the box of a game.
func Compute(g Game) (Box, api.Errno) {
	return Part(g, 0, len(g.Plays))
}

// Part returns the box of some plays of a game.
func Part(g Game, from, to int) (Box, api.Errno) {
	x, e := newGame(g)
	e = first(e, checkRange(from, 0, len(g.Plays)), checkRange(to, from, len(g.Plays)))
	if e != api.OK {
		return Box{}, e
	}
	return x.part(from, to), api.OK
}

// newGame returns a game if it is one. Beside an error it is empty.
func newGame(g Game) (game, api.Errno) {
	states, _, _, broken := rule.Replay(g.Plays)
	_, wrong := judge.Complete(g.Plays, g.Judgments)
	if e := first(lineup.CheckChanges(g.Teams, g.Changes), broken, wrong); e != api.OK {
		return game{}, e
	}
	return game{g, states}, api.OK
}

// part returns the box of the plays from one on and before another one.
func (g game) part(from, to int) Box {
	if from == to {
		return Box{}
	}
	s, kinds := sums{}, credit.Kinds()
	for x := range g.scenes(from, to) {
		for _, c := range x.credits {
			s.add(x.holder(c), slices.Index(kinds, c.Kind), c.N)
		}
	}
	return Box{Lines: s.lines(), Innings: g.innings(from, to), Rest: g.rest(from, to)}
}

// scenes visits the plays from one on and before another one.
func (g game) scenes(from, to int) iter.Seq[scene] {
	return func(yield func(scene) bool) {
		credits := g.credits()
		for at := from; at < to; at++ {
			teams, _ := lineup.At(g.Teams, g.Changes, at)
			if !yield(scene{credits[at], teams}) {
				return
			}
		}
	}
}

// credits returns the credits of each play.
func (g game) credits() [][]credit.Credit {
	all, _ := credit.All(g.Plays, g.Judgments)
	credits := make([][]credit.Credit, len(g.Plays))
	for _, c := range all {
		credits[c.Play] = append(credits[c.Play], c)
	}
	return credits
}

// holder returns the player whose a credit of the play is. It has either a slot or a position.
func (x scene) holder(c credit.Credit) holder {
	l := x.teams[c.Side]
	for i, player := range l.Batters {
		if i+1 == c.Slot || l.Positions[i] == c.Position {
			return holder{c.Side, player}
		}
	}
	return holder{}
}

// innings returns the runs of both sides in some plays, at least one, by innings from the first one of the game on.
func (g game) innings(from, to int) [][2]int {
	runs := make([][2]int, g.states[to-1].Inning)
	for at := from; at < to; at++ {
		now, next := g.states[at], g.states[at+1]
		runs[now.Inning-1][now.Half] += next.Score[now.Half] - now.Score[now.Half]
	}
	return runs
}

// rest returns how many runners more each side has after some plays than before them.
func (g game) rest(from, to int) [2]int {
	return plus(runners(g.states[to]), runners(g.states[from]), -1)
}

// runners returns the number of runners of each side.
func runners(s rule.State) [2]int {
	var n [2]int
	for _, slot := range s.Bases {
		if slot != 0 {
			n[s.Half]++
		}
	}
	return n
}
