package lineup

import (
	"cmp"
	"slices"

	"dugout/api"
)

// Stints returns the stints of a game of n plays.
func Stints(t Teams, l []Change, n int) ([]Stint, api.Errno) {
	if e := firstError(CheckChanges(t, l), checkIndex(n)); e != api.OK {
		return nil, e
	}
	return stints(t, l, n), api.OK
}

// Pitchers returns the stints of the pitchers of a side.
func Pitchers(t Teams, l []Change, n, side int) ([]Stint, api.Errno) {
	if e := firstError(CheckChanges(t, l), checkIndex(n), checkSide(side)); e != api.OK {
		return nil, e
	}
	pitchers := slices.DeleteFunc(stints(t, l, n), func(s Stint) bool { return s.Side != side || s.Position != pitcher })
	slices.SortFunc(pitchers, func(a, b Stint) int { return cmp.Compare(a.From, b.From) })
	return pitchers, api.OK
}

// period is the plays from one on and before another one at which a side has the same lineup.
type period struct {
	lineup Lineup
	from   int
	to     int
}

func stints(t Teams, l []Change, n int) []Stint {
	var all []Stint
	for side := range t {
		periods := periodsOf(t, l, n, side)
		for slot := range slots(t[side]) {
			all = append(all, stintsOf(periods, side, slot)...)
		}
	}
	return all
}

// periodsOf returns the periods of a side in a game of n plays.
func periodsOf(t Teams, l []Change, n, side int) []period {
	var periods []period
	for play, now := range course(t, l, n) {
		last := len(periods) - 1
		if last >= 0 && periods[last].lineup == now[side] {
			periods[last].to = play + 1
			continue
		}
		periods = append(periods, period{now[side], play, play + 1})
	}
	return periods
}

// stintsOf returns the stints in a slot of a side with these periods.
func stintsOf(periods []period, side, slot int) []Stint {
	var list []Stint
	for _, p := range periods {
		player, position := p.lineup.Batters[slot-1], p.lineup.Positions[slot-1]
		last := len(list) - 1
		if last >= 0 && list[last].Player == player && list[last].Position == position {
			list[last].To = p.to
			continue
		}
		list = append(list, Stint{Side: side, Slot: slot, Position: position, Player: player, From: p.from, To: p.to})
	}
	return list
}
