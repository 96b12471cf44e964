package judge

import (
	"cmp"
	"iter"
	"slices"
	"strings"

	"dugout/api"
	"dugout/rule"
)

// game is a list of plays none of which breaks a rule, with the states before them.
type game struct {
	plays  []api.Play
	states []rule.State
}

func newGame(plays []api.Play) (game, api.Errno) {
	states, _, _, e := rule.Replay(plays)
	if e != api.OK {
		return game{}, e
	}
	return game{plays, states}, api.OK
}

// judged returns a game if it is one, and if a list is one of its judgments.
func judged(plays []api.Play, l []api.Judgment) (game, api.Errno) {
	g, e := newGame(plays)
	if e != api.OK {
		return game{}, e
	}
	if _, e = g.check(l); e != api.OK {
		return game{}, e
	}
	return g, api.OK
}

// spot is a move in a game.
type spot struct {
	at   int // the index of its play
	play api.Play
	outs int // before the play
	move api.Move
}

// spots visits the moves of a play.
func (g game) spots(at int) iter.Seq[spot] {
	return func(yield func(spot) bool) {
		for _, m := range g.plays[at].Moves {
			if !yield(spot{at, g.plays[at], g.states[at].Outs, m}) {
				return
			}
		}
	}
}

// isSafeBy reports whether a move is safe by one of some ways.
func (s spot) isSafeBy(ways string) bool {
	return !s.move.Out && strings.Contains(ways, s.move.How)
}

// isInPlay reports whether a move is that of the batter who put the ball in play.
func (s spot) isInPlay() bool {
	return s.move.From == 0 && s.play.Event == "X"
}

func (s spot) isBatted() bool {
	return s.isInPlay() && s.isSafeBy("bt")
}

func (s spot) isGotAway() bool {
	return s.isSafeBy("p")
}

func (s spot) isStolen() bool {
	return s.isSafeBy("s")
}

func (s spot) isTouchedBy(fielder int) bool {
	return slices.Contains(s.move.By, fielder)
}

// helpsOthers reports whether a runner on a base has a safe move in the play.
func (s spot) helpsOthers() bool {
	return slices.ContainsFunc(s.play.Moves, func(m api.Move) bool { return m.From > 0 && !m.Out })
}

// isOwn reports whether a judgment is about a move.
func (s spot) isOwn(j api.Judgment) bool {
	return j.Play == s.at && j.From == s.move.From
}

// Fits returns OK for a judgment that fits its move.
func Fits(plays []api.Play, j api.Judgment) api.Errno {
	g, e := newGame(plays)
	return first(e, g.errorOf(j))
}

// CheckJudgments returns the index and the error of the first wrong judgment, or -1 and OK.
func CheckJudgments(plays []api.Play, l []api.Judgment) (int, api.Errno) {
	g, e := newGame(plays)
	if e != api.OK {
		return -1, e
	}
	return g.check(l)
}

func (g game) errorOf(j api.Judgment) api.Errno {
	if e := g.hasPlay(j.Play); e != api.OK {
		return e
	}
	k, known := kinds()[j.Kind]
	s, found := g.spotOf(j)
	switch {
	case !known:
		return api.ErrKind
	case k.rule != j.Rule:
		return api.ErrRule
	case !found:
		return api.ErrNone
	case !k.fits(s, j):
		return api.ErrJudge
	}
	return api.OK
}

// spotOf returns the move that a judgment is about, if its play, which is one of the game, has it.
func (g game) spotOf(j api.Judgment) (spot, bool) {
	for s := range g.spots(j.Play) {
		if s.isOwn(j) {
			return s, true
		}
	}
	return spot{}, false
}

func (g game) hasPlay(at int) api.Errno {
	if !within(at, 0, len(g.plays)-1) {
		return api.ErrUnknown
	}
	return api.OK
}

func (g game) check(l []api.Judgment) (int, api.Errno) {
	if len(l) > api.MaxJudgments {
		return -1, api.ErrMany
	}
	for i, j := range l {
		if e := first(g.errorOf(j), follows(l[:i], j), agrees(l[:i], j)); e != api.OK {
			return i, e
		}
	}
	return -1, api.OK
}

// follows returns ErrOrder if a judgment does not come after the last one of those before it.
func follows(before []api.Judgment, j api.Judgment) api.Errno {
	if n := len(before); n > 0 && compare(before[n-1], j) >= 0 {
		return api.ErrOrder
	}
	return api.OK
}

// agrees returns ErrConflict if one of the judgments before another one excludes it. They are in order, so those about its play come last.
func agrees(before []api.Judgment, j api.Judgment) api.Errno {
	e := api.OK
search:
	for _, b := range slices.Backward(before) {
		switch {
		case b.Play != j.Play:
			break search
		case Excludes(b, j):
			e = api.ErrConflict
			break search
		}
	}
	return e
}

// compare compares judgments by their order.
func compare(a, b api.Judgment) int {
	return cmp.Or(cmp.Compare(a.Play, b.Play), cmp.Compare(b.From, a.From), cmp.Compare(a.Rule, b.Rule))
}
