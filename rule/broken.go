package rule

import (
	"iter"
	"strings"

	"dugout/api"
	"dugout/play"
)

// playRule is one of the rules of play: its name, and what breaks it if no rule before it is broken.
type playRule struct {
	name   string
	broken func(*turn) bool
}

func ruleTable() [MaxRules]playRule {
	return [MaxRules]playRule{
		{"pitches", breaksPitches},
		{"event", breaksEvent},
		{"batter", breaksBatter},
		{"runners", breaksRunners},
		{"batter's way", breaksBattersWay},
		{"third strike", breaksThirdStrike},
		{"infield fly", breaksInfieldFly},
		{"ways", breaksWays},
		{"balk", breaksBalk},
		{"awards", breaksAwards},
		{"order", breaksOrder},
		{"outs", breaksOuts},
		{"late runs", breaksLateRuns},
	}
}

// Rules returns the rules, in order.
func Rules() []string {
	table := ruleTable()
	return transform(table[:], func(r playRule) string { return r.name })
}

// turn is a play in a state, with what several rules ask about it.
type turn struct {
	state   State
	play    api.Play
	count   [2]int
	counted bool // the count could be led on by the pitches
	outs    int  // those of the half, with the play
	forced  [4]bool
}

func newTurn(s State, p api.Play) *turn {
	counted, _, e := play.Count(s.Balls, s.Strikes, p.Pitches)
	return &turn{
		state:   s,
		play:    p,
		count:   counted,
		counted: e == api.OK,
		outs:    s.Outs + count(p.Moves, isOut),
		forced:  forced(s),
	}
}

// firstBroken returns the number of the first rule that is broken, or 0.
func (t *turn) firstBroken() int {
	broken := 0
search:
	for i, r := range ruleTable() {
		if r.broken(t) {
			broken = i + 1
			break search
		}
	}
	return broken
}

// hasEvent reports whether the event is one of some letters; none of them is the empty event.
func (t *turn) hasEvent(letters string) bool {
	return t.play.Event != "" && strings.Contains(letters, t.play.Event)
}

// goesOn reports whether the batter's turn goes on behind the play.
func (t *turn) goesOn() bool {
	return t.play.Event == ""
}

// batterMove returns the move of the batter, who is the last one of a play, if he has one.
func (t *turn) batterMove() (api.Move, bool) {
	moves := t.play.Moves
	if len(moves) == 0 || moves[len(moves)-1].From != 0 {
		return api.Move{}, false
	}
	return moves[len(moves)-1], true
}

// batterIsOut reports whether the batter is out in one of some ways.
func (t *turn) batterIsOut(letters string) bool {
	m, moves := t.batterMove()
	return moves && m.Out && strings.Contains(letters, m.How)
}

// runnerMoves visits the moves of a play without the batter's.
func runnerMoves(p api.Play) iter.Seq[api.Move] {
	return func(yield func(api.Move) bool) {
		for _, m := range p.Moves {
			if m.From > 0 && !yield(m) {
				return
			}
		}
	}
}

func isOut(m api.Move) bool {
	return m.Out
}

func isRun(m api.Move) bool {
	return !m.Out && m.To == home
}

func breaksPitches(t *turn) bool {
	return !t.counted
}

func breaksEvent(t *turn) bool {
	switch asked := eventAsked(t.count, t.play.Pitches); asked {
	case "":
		return !t.goesOn() && !t.hasEvent("IN")
	case "X":
		return !t.hasEvent("XY")
	default:
		return t.play.Event != asked
	}
}

func breaksBatter(t *turn) bool {
	_, moves := t.batterMove()
	return moves == t.goesOn()
}

func breaksRunners(t *turn) bool {
	for m := range runnerMoves(t.play) {
		if t.state.Bases[m.From-1] == 0 {
			return true
		}
	}
	return false
}

func breaksBattersWay(t *turn) bool {
	m, moves := t.batterMove()
	if !moves {
		return false
	}
	// No way of the batter is both one of safe moves and one of outs.
	permitted := map[string]string{
		"K": "kfgpt",
		"W": "a",
		"H": "a",
		"I": "a",
		"X": "btofcg",
		"N": "n",
		"Y": "y",
	}
	return !strings.Contains(permitted[t.play.Event], m.How) || m.How == "a" && m.To != 1
}

func breaksThirdStrike(t *turn) bool {
	return t.hasEvent("K") && !t.batterIsOut("k") && t.state.Bases[0] != 0 && t.state.Outs < allOuts-1
}

func breaksInfieldFly(t *turn) bool {
	return t.hasEvent("Y") && (t.state.Outs == allOuts-1 || t.state.Bases[0] == 0 || t.state.Bases[1] == 0)
}

func breaksWays(t *turn) bool {
	for m := range runnerMoves(t.play) {
		if m.Out && !t.permitsOut(m) || !m.Out && !t.permitsSafe(m) {
			return true
		}
	}
	return false
}

// permitsSafe reports whether the rule of ways permits a safe move of a runner.
func (t *turn) permitsSafe(m api.Move) bool {
	switch m.How {
	case "b":
		return t.hasEvent("XY")
	case "a":
		return t.hasEvent("WHI") && t.forced[m.From] && m.To == m.From+1
	case "s":
		return t.goesOn() || t.hasEvent("KW")
	case "p":
		return (t.goesOn() || t.hasEvent("KW")) && t.play.Pitches != ""
	case "k":
		return t.goesOn()
	default:
		return !t.hasEvent("HIN")
	}
}

// permitsOut reports whether the rule of ways permits an out of a runner.
func (t *turn) permitsOut(m api.Move) bool {
	switch m.How {
	case "f":
		return t.forced[m.From] && t.hasEvent("XK") && !t.batterIsOut("ck")
	case "d":
		return t.hasEvent("Y") || t.batterIsOut("c")
	default:
		return !t.hasEvent("HIN")
	}
}

func breaksBalk(t *turn) bool {
	balked, steps := false, 0
	for m := range runnerMoves(t.play) {
		if m.How == "k" {
			balked = true
			if m.To == m.From+1 {
				steps++
			}
		}
	}
	return balked && steps < count(t.state.Bases[:], isRunner)
}

func isRunner(slot int) bool {
	return slot != 0
}

func breaksAwards(t *turn) bool {
	if !t.hasEvent("WHI") {
		return false
	}
	waits := t.forced
	for _, m := range t.play.Moves {
		if !m.Out {
			waits[m.From] = false
		}
	}
	return waits != [4]bool{}
}

func breaksOrder(t *turn) bool {
	places := t.places()
	for higher, ahead := range places {
		for _, place := range places[:higher] {
			if place != 0 && ahead != 0 && place >= ahead && (place != home || ahead != home) {
				return true
			}
		}
	}
	return false
}

func breaksOuts(t *turn) bool {
	return t.outs > allOuts
}

func breaksLateRuns(t *turn) bool {
	return t.play.Late && (t.outs < allOuts || count(t.play.Moves, isRun) == 0)
}
