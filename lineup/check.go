package lineup

import (
	"dugout/api"
	"dugout/play"
)

// CheckLineup returns the first error of a lineup, or OK.
func CheckLineup(l Lineup) api.Errno {
	return firstError(checkBatters(l), checkPositions(l))
}

// CheckTeams returns the first error of teams, or OK.
func CheckTeams(t Teams) api.Errno {
	return firstError(CheckLineup(t[0]), CheckLineup(t[1]), checkSides(t))
}

// CheckChanges returns the first error of teams and changes, or OK.
func CheckChanges(t Teams, l []Change) api.Errno {
	if e := CheckTeams(t); e != api.OK {
		return e
	}
	if len(l) > api.MaxChanges {
		return api.ErrMany
	}
	return checkEach(t, l)
}

func checkBatters(l Lineup) api.Errno {
	seen := map[string]bool{}
	for _, s := range slots(l) {
		if !play.IsName(s.player) {
			return api.ErrName
		}
		if seen[s.player] {
			return api.ErrTwice
		}
		seen[s.player] = true
	}
	return api.OK
}

func checkPositions(l Lineup) api.Errno {
	seen := map[int]bool{}
	for _, s := range slots(l) {
		if e := checkPlace(s.position); e != api.OK {
			return e
		}
		if seen[s.position] {
			return api.ErrConflict
		}
		seen[s.position] = true
	}
	return api.OK
}

func checkSides(t Teams) api.Errno {
	for _, s := range slots(t[1]) {
		if t[0].slotOf(s.player) != 0 {
			return api.ErrTwice
		}
	}
	return api.OK
}

// checkEach returns the first error of a list of changes for valid teams.
func checkEach(t Teams, l []Change) api.Errno {
	known := players(t)
	i := 0
	for before, c := range steps(t, l) {
		// The later checks rely on the earlier ones: no slot is looked up that is none.
		if e := checkChange(c); e != api.OK {
			return e
		}
		if i > 0 && compare(l[i-1], c) >= 0 {
			return api.ErrOrder
		}
		if e := checkMade(before, c, known); e != api.OK {
			return e
		}
		i++
		if endsCall(c, l[i:]) && checkPositions(made(before, c)[c.Side]) != api.OK {
			return api.ErrConflict
		}
	}
	return api.OK
}

// players returns those who are in the game at its start.
func players(t Teams) map[string]bool {
	known := map[string]bool{}
	for _, l := range t {
		for _, s := range slots(l) {
			known[s.player] = true
		}
	}
	return known
}

// checkChange returns the first error of a change by itself.
func checkChange(c Change) api.Errno {
	return firstError(checkSide(c.Side), checkIndex(c.Play), checkPlace(c.Slot), checkPlace(c.Position), checkName(c.Player))
}

// checkMade returns the first error of a change in the teams before it, and adds who comes in to those who are known.
func checkMade(before Teams, c Change, known map[string]bool) api.Errno {
	if made(before, c) == before {
		return api.ErrTwice
	}
	if comesIn(before, c) && known[c.Player] {
		return api.ErrPlayer
	}
	known[c.Player] = true
	return api.OK
}

// endsCall reports whether a change is the last one of its side before its play; rest is the list behind it.
func endsCall(c Change, rest []Change) bool {
	return len(rest) == 0 || rest[0].Side != c.Side || rest[0].Play != c.Play
}

func checkSide(side int) api.Errno {
	if !within(side, 0, 1) {
		return api.ErrSide
	}
	return api.OK
}

// checkIndex returns the error of a play, or of a number of plays.
func checkIndex(play int) api.Errno {
	if !within(play, 0, api.MaxPlays) {
		return api.ErrRange
	}
	return api.OK
}

// checkPlace returns the error of a slot, or of a position.
func checkPlace(place int) api.Errno {
	if !within(place, 1, places) {
		return api.ErrRange
	}
	return api.OK
}

func checkName(player string) api.Errno {
	if !play.IsName(player) {
		return api.ErrName
	}
	return api.OK
}
