package box

import (
	"slices"

	"dugout/api"
	"dugout/lineup"
	"dugout/play"
	"dugout/rule"
)

// contest is a game that is over and has a winner, as it is for the winner.
type contest struct {
	plays   []api.Play
	turns   []lineup.Turn
	leads   []int // his lead before each play, and after the last one
	fielded []int // the plays at which he is in the field
}

// Leads returns the lead of side 0 before each play, and after the last one.
func Leads(plays []api.Play) ([]int, api.Errno) {
	states, _, _, e := rule.Replay(plays)
	return leads(states, 0), e
}

// Decide returns the decision of a game that is over.
func Decide(g Game) (Decision, api.Errno) {
	x, e := newGame(g)
	if e != api.OK {
		return Decision{}, e
	}
	final := x.states[len(x.states)-1]
	switch {
	case !final.Over:
		return Decision{}, api.ErrState
	case final.Score[0] == final.Score[1]:
		return Decision{}, api.ErrNone
	case final.Score[0] > final.Score[1]:
		return newContest(x, 0).decision(), api.OK
	}
	return newContest(x, 1).decision(), api.OK
}

// leads returns the leads of a side in some states.
func leads(states []rule.State, side int) []int {
	return transform(states, func(s rule.State) int { return s.Score[side] - s.Score[1-side] })
}

func newContest(g game, winner int) contest {
	c := contest{plays: g.Plays, turns: g.turns(), leads: leads(g.states, winner)}
	for at, t := range c.turns {
		if t.Side != winner {
			c.fielded = append(c.fielded, at)
		}
	}
	return c
}

func (c contest) decision() Decision {
	at := c.deciding()
	d := Decision{Win: c.winning(at), Loss: c.turns[at].Pitcher, Play: at}
	from := c.stretch()
	if closer := c.turns[from].Pitcher; closer != d.Win && c.isSaved(from) {
		d.Save = closer
	}
	return d
}

// deciding returns the last play before which the winner is not ahead. Behind it he is, and stays so.
func (c contest) deciding() int {
	at := len(c.plays) - 1
search:
	for at > 0 {
		switch {
		case c.leads[at] > 0:
			at--
		default:
			break search
		}
	}
	return at
}

// winning returns the winning pitcher: the one at the last play in the field before the deciding one, or at the first one behind it.
func (c contest) winning(deciding int) string {
	at := c.fielded[0]
	for _, other := range c.fielded {
		if other < deciding {
			at = other
		}
	}
	return c.turns[at].Pitcher
}

// stretch returns the play with which the stretch of the closer begins.
func (c contest) stretch() int {
	from := c.fielded[len(c.fielded)-1]
	for _, at := range slices.Backward(c.fielded) {
		if c.turns[at].Pitcher != c.turns[from].Pitcher {
			break
		}
		from = at
	}
	return from
}

// isSaved reports whether the stretch of the closer that begins with a play is worth a save.
func (c contest) isSaved(from int) bool {
	lead := c.leads[from]
	return lead > 0 && (lead <= SaveLead || c.outs(from) >= SaveOuts)
}

// outs returns the outs in the plays from one on at which the winner is in the field.
func (c contest) outs(from int) int {
	sum := 0
	for _, at := range c.fielded {
		if at >= from {
			n, _ := play.Outs(c.plays[at])
			sum += n
		}
	}
	return sum
}
