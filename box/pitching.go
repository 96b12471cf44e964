package box

import (
	"iter"
	"maps"
	"slices"

	"dugout/api"
	"dugout/credit"
	"dugout/earned"
	"dugout/lineup"
)

// outKind is the kind of credits that counts the outs of a pitcher.
const outKind = "out"

// Pitching returns the lines of all pitchers of a game.
func Pitching(g Game) ([]Pitcher, api.Errno) {
	x, e := newGame(g)
	if e != api.OK {
		return nil, e
	}
	return x.pitchers(), api.OK
}

// Earned returns the earned runs of both sides.
func Earned(g Game) ([2]int, api.Errno) {
	x, e := newGame(g)
	if e != api.OK {
		return [2]int{}, e
	}
	return x.earned(), api.OK
}

// turns returns for each play who bats, and who pitches.
func (g game) turns() []lineup.Turn {
	turns, _ := lineup.Turns(g.Teams, g.Changes, g.Plays)
	return turns
}

// relief returns the plays at which another pitcher than at the play before is in the field, in the same half of an inning.
func (g game) relief(turns []lineup.Turn) []int {
	var relief []int
	for i := range max(0, len(turns)-1) {
		before, now := g.states[i], g.states[i+1]
		isSameHalf := now.Inning == before.Inning && now.Half == before.Half
		if isSameHalf && turns[i+1].Pitcher != turns[i].Pitcher {
			relief = append(relief, i+1)
		}
	}
	return relief
}

// halves visits the halves of the game, each with the index of its first play.
func (g game) halves(relief []int) iter.Seq2[int, earned.Half] {
	return func(yield func(int, earned.Half) bool) {
		halves, _ := earned.Split(g.Plays, g.Judgments, relief)
		begin := 0
		for _, h := range halves {
			if !yield(begin, h) {
				return
			}
			begin += len(h.Plays)
		}
	}
}

// pitchers returns the lines of the pitchers, by sides, then by players.
func (g game) pitchers() []Pitcher {
	turns := g.turns()
	pitchers := map[holder]Pitcher{}
	for begin, h := range g.halves(g.relief(turns)) {
		lines, _ := earned.Lines(h)
		for _, l := range lines {
			turn := turns[begin+l.From]
			who := holder{1 - turn.Side, turn.Pitcher}
			pitchers[who] = longer(pitchers[who], l)
		}
	}
	whole, out := g.part(0, len(g.Plays)), slices.Index(credit.Kinds(), outKind)
	return transform(slices.SortedFunc(maps.Keys(pitchers), holder.compare), func(who holder) Pitcher {
		p := pitchers[who]
		l, _ := lineOf(whole, who) // a pitcher without credits has no line
		p.Side, p.Player, p.Outs = who.side, who.player, l.Counts[out]
		return p
	})
}

// longer returns the line of a pitcher with that of one more half.
func longer(p Pitcher, l earned.Line) Pitcher {
	p.Runs += l.Runs
	p.Earned += l.Earned
	p.Inherited += l.Inherited
	p.Scored += l.Scored
	return p
}

// earned returns the earned runs of both sides.
func (g game) earned() [2]int {
	var runs [2]int
	for begin, h := range g.halves(nil) {
		team, _ := earned.Team(h)
		runs[g.states[begin].Half] += team.Earned
	}
	return runs
}
