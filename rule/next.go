package rule

import (
	"strings"

	"dugout/api"
	"dugout/play"
)

// What a play may end.
const (
	endsNothing = iota
	endsHalf
	endsGame
)

// Apply returns the state after a play, or the number of the first rule that it breaks.
func Apply(s State, p api.Play) (State, int, api.Errno) {
	t, broken, e := accept(s, p)
	if e != api.OK {
		return State{}, broken, e
	}
	return t.next(), 0, api.OK
}

// Scored returns the slots of the runners whose runs count, in the order of the moves.
func Scored(s State, p api.Play) ([]int, api.Errno) {
	t, _, e := accept(s, p)
	if e != api.OK {
		return nil, e
	}
	return transform(t.runs(), func(m api.Move) int { return t.slot(m.From) }), api.OK
}

// Left returns the slots of the runners who are left on base if the play ends its half.
func Left(s State, p api.Play) ([]int, api.Errno) {
	t, _, e := accept(s, p)
	if e != api.OK || t.ends() == endsNothing {
		return nil, e
	}
	return t.left(), api.OK
}

// Ends returns what a play ends: 0 nothing, 1 the half of an inning, 2 the game.
func Ends(s State, p api.Play) (int, api.Errno) {
	t, _, e := accept(s, p)
	if e != api.OK {
		return 0, e
	}
	return t.ends(), api.OK
}

// accept returns a play in a state that it may follow, or the number of the first rule that it breaks.
func accept(s State, p api.Play) (*turn, int, api.Errno) {
	formed := func(State) api.Errno { return play.CheckPlay(p) }
	if e := firstError(s, CheckState, formed, checkOn); e != api.OK {
		return nil, 0, e
	}
	t := newTurn(s, p)
	if broken := t.firstBroken(); broken != 0 {
		return nil, broken, api.ErrRule
	}
	if s.Score[s.Half]+len(t.runs()) > MaxScore {
		return nil, 0, api.ErrLarge
	}
	return t, 0, api.OK
}

// slot returns the slot of who began on a base, or of the batter.
func (t *turn) slot(from int) int {
	if from == 0 {
		return batter(t.state)
	}
	return t.state.Bases[from-1]
}

// places returns the places after the play of those who began on each base, and of the batter; 0 is none.
func (t *turn) places() [4]int {
	var places [4]int
	for i, slot := range t.state.Bases {
		if slot != 0 {
			places[i+1] = i + 1
		}
	}
	for _, m := range t.play.Moves {
		places[m.From] = m.To
		if m.Out {
			places[m.From] = 0
		}
	}
	return places
}

// runs returns the moves whose runs count.
func (t *turn) runs() []api.Move {
	if t.outs == allOuts && (t.play.Late || t.hasClosingOut()) {
		return nil
	}
	var runs []api.Move
	for _, m := range t.play.Moves {
		if isRun(m) {
			runs = append(runs, m)
		}
	}
	return runs
}

// hasClosingOut reports whether the play has an out that would let no run count as the third one.
func (t *turn) hasClosingOut() bool {
	for _, m := range t.play.Moves {
		isBatters := m.From == 0 && (strings.Contains("ckny", m.How) || m.How == "g" && m.To == 1)
		if m.Out && (m.How == "f" || isBatters) {
			return true
		}
	}
	return false
}

// next returns the state after the play.
func (t *turn) next() State {
	s := t.state
	s.Outs = t.outs
	s.Score[s.Half] += len(t.runs())
	s.Balls, s.Strikes = t.count[0], t.count[1]
	if !t.goesOn() {
		s.Balls, s.Strikes = 0, 0
		s.Next[s.Half] = behind(batter(s))
	}
	s.Bases = t.bases()
	switch {
	case isDecided(s):
		return ended(s)
	case s.Outs == allOuts:
		return behindHalf(s)
	}
	return s
}

// bases returns the runners after the play. Moves come from the highest base on, so each one leads to a base that is free by then.
func (t *turn) bases() [3]int {
	var moved [3]int
	copy(moved[:], t.state.Bases[:])
	for _, m := range t.play.Moves {
		if m.From > 0 {
			moved[m.From-1] = 0
		}
		if !m.Out && m.To < home {
			moved[m.To-1] = t.slot(m.From)
		}
	}
	return moved
}

// behindHalf returns the state behind a half with three outs.
func behindHalf(s State) State {
	if isLastHalf(s) {
		return ended(s)
	}
	s = cleared(s)
	if s.Half == 1 {
		s.Inning++
	}
	s.Half = 1 - s.Half
	return s
}

func ended(s State) State {
	s = cleared(s)
	s.Over = true
	return s
}

// ends returns what the play ends.
func (t *turn) ends() int {
	next := t.next()
	switch {
	case next.Over:
		return endsGame
	case next.Half != t.state.Half:
		return endsHalf
	}
	return endsNothing
}

// left returns those who have places, without those whose runs count: the runners behind the play, or those left on base if it ends its half. By the rule of order they stand by their places if they are taken by the bases on which they began.
func (t *turn) left() []int {
	places, haveRuns := t.places(), len(t.runs()) > 0
	var slots []int
	for i := range places {
		from := len(places) - 1 - i
		isCounted := haveRuns && places[from] == home
		if places[from] != 0 && !isCounted {
			slots = append(slots, t.slot(from))
		}
	}
	return slots
}
