package lineup

import (
	"dugout/api"
	"dugout/rule"
)

// Turns returns for each play who bats, and who pitches.
func Turns(t Teams, l []Change, plays []api.Play) ([]Turn, api.Errno) {
	states, e := replay(t, l, plays)
	if e != api.OK {
		return nil, e
	}
	var turns []Turn
	for i, now := range course(t, l, len(plays)) {
		side := states[i].Half
		slot := states[i].Next[side]
		turns = append(turns, Turn{Side: side, Slot: slot, Batter: now[side].batter(slot), Pitcher: now[1-side].fielder(pitcher)})
	}
	return turns, api.OK
}

// Handlers returns for each play and move the names of the fielders who touched the ball.
func Handlers(t Teams, l []Change, plays []api.Play) ([][][]string, api.Errno) {
	states, e := replay(t, l, plays)
	if e != api.OK {
		return nil, e
	}
	var handlers [][][]string
	for i, now := range course(t, l, len(plays)) {
		fielding := now[1-states[i].Half]
		handlers = append(handlers, transform(plays[i].Moves, func(m api.Move) []string {
			return transform(m.By, fielding.fielder)
		}))
	}
	return handlers, api.OK
}

// Deviate returns the first name that came up out of turn.
func Deviate(l Lineup, first int, came []string) (Deviation, api.Errno) {
	if e := firstError(CheckLineup(l), checkPlace(first), checkCame(l, came)); e != api.OK {
		return Deviation{}, e
	}
	slot, at := first, 0
search:
	for at < len(came) {
		switch came[at] {
		case l.batter(slot):
			slot = after(slot)
			at++
		default:
			break search
		}
	}
	if at == len(came) {
		return Deviation{}, api.ErrNone
	}
	return Deviation{Index: at, Proper: l.batter(slot), Came: came[at], Next: l.batter(after(slot))}, api.OK
}

// Improper returns the indices of all names that came up out of turn, without appeals.
func Improper(l Lineup, first int, came []string) ([]int, api.Errno) {
	if e := firstError(CheckLineup(l), checkPlace(first), checkCame(l, came)); e != api.OK {
		return nil, e
	}
	var improper []int
	proper := first
	for i, name := range came {
		slot := l.slotOf(name)
		if slot != proper {
			improper = append(improper, i)
		}
		proper = after(slot)
	}
	return improper, api.OK
}

// replay returns the states of a game of teams with changes.
func replay(t Teams, l []Change, plays []api.Play) ([]rule.State, api.Errno) {
	if e := CheckChanges(t, l); e != api.OK {
		return nil, e
	}
	states, _, _, e := rule.Replay(plays)
	return states, e
}

// checkCame returns the first error of names that came up.
func checkCame(l Lineup, came []string) api.Errno {
	if len(came) > api.MaxList {
		return api.ErrMany
	}
	for _, name := range came {
		if l.slotOf(name) == 0 {
			return api.ErrUnknown
		}
	}
	return api.OK
}
