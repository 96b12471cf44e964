package lineup

import (
	"slices"

	"dugout/api"
)

// At returns the teams at a play.
func At(t Teams, l []Change, play int) (Teams, api.Errno) {
	if e := firstError(CheckChanges(t, l), checkIndex(play)); e != api.OK {
		return Teams{}, e
	}
	return teamsAt(t, l, play), api.OK
}

// Names returns the players of both sides.
func Names(t Teams, l []Change) ([2][]string, api.Errno) {
	if e := CheckChanges(t, l); e != api.OK {
		return [2][]string{}, e
	}
	return names(t, l), api.OK
}

// Who returns the player who has a position at a play.
func Who(t Teams, l []Change, play, side, position int) (string, api.Errno) {
	if e := firstError(CheckChanges(t, l), checkIndex(play), checkSide(side), checkPlace(position)); e != api.OK {
		return "", e
	}
	return teamsAt(t, l, play)[side].fielder(position), api.OK
}

// SlotOf returns the slot of a player at a play.
func SlotOf(t Teams, l []Change, play, side int, player string) (int, api.Errno) {
	if e := firstError(CheckChanges(t, l), checkIndex(play), checkSide(side), checkName(player)); e != api.OK {
		return 0, e
	}
	slot := teamsAt(t, l, play)[side].slotOf(player)
	if slot == 0 {
		return 0, api.ErrUnknown
	}
	return slot, api.OK
}

// Gone returns the players of a side who have left at a play.
func Gone(t Teams, l []Change, play, side int) ([]string, api.Errno) {
	if e := firstError(CheckChanges(t, l), checkIndex(play), checkSide(side)); e != api.OK {
		return nil, e
	}
	var gone []string
	for before, c := range steps(t, l[:madeBefore(l, play+1)]) {
		if c.Side == side && comesIn(before, c) {
			gone = append(gone, holder(before, c))
		}
	}
	return gone, api.OK
}

// Played returns during how many of n plays a player is in the game.
func Played(t Teams, l []Change, n int, player string) (int, api.Errno) {
	if e := firstError(CheckChanges(t, l), checkIndex(n), checkName(player)); e != api.OK {
		return 0, e
	}
	all := names(t, l)
	if !slices.Contains(all[0], player) && !slices.Contains(all[1], player) {
		return 0, api.ErrUnknown
	}
	played := 0
	for _, s := range stints(t, l, n) {
		if s.Player == player {
			played += s.To - s.From
		}
	}
	return played, api.OK
}

func teamsAt(t Teams, l []Change, play int) Teams {
	return allMade(t, l[:madeBefore(l, play+1)])
}

// names returns for each side the players of its lineup, and then those who come in.
func names(t Teams, l []Change) [2][]string {
	var all [2][]string
	for side, lineup := range t {
		all[side] = slices.Clone(lineup.Batters[:])
	}
	for before, c := range steps(t, l) {
		if comesIn(before, c) {
			all[c.Side] = append(all[c.Side], c.Player)
		}
	}
	return all
}
