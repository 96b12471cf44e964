package season

import (
	"cmp"
	"slices"

	"dugout/api"
)

// sums are totals by players.
type sums map[string]Total

// add adds a total so many times.
func (s sums) add(t Total, times int) {
	sum := s[t.Player]
	sum.Player = t.Player
	sum.Games += times * t.Games
	for kind, n := range t.Counts {
		sum.Counts[kind] += times * n
	}
	s[t.Player] = sum
}

// addGames adds the lines of games so many times.
func (s sums) addGames(l []Game, times int) {
	for g := range games(l) {
		for _, x := range g.Lines {
			s.add(Total{x.Player, 1, x.Counts}, times)
		}
	}
}

// list returns the totals that are not blank, in their order.
func (s sums) list() []Total {
	var l []Total
	for _, t := range s {
		if !t.isBlank() {
			l = append(l, t)
		}
	}
	slices.SortFunc(l, func(a, b Total) int { return cmp.Compare(a.Player, b.Player) })
	return l
}

// isBlank reports whether a total has no number other than 0.
func (t Total) isBlank() bool {
	return t == Total{Player: t.Player}
}

// Totals returns the totals of all players of a book.
func Totals(b Book) ([]Total, api.Errno) {
	if e := CheckBook(b); e != api.OK {
		return nil, e
	}
	s := sums{}
	s.addGames(b.Games, 1)
	return s.list(), api.OK
}

// Difference returns how totals change when one list of games takes the place of another one.
func Difference(before, after []Game) ([]Total, api.Errno) {
	if e := first(checkGames(before), checkGames(after)); e != api.OK {
		return nil, e
	}
	s := sums{}
	s.addGames(before, -1)
	s.addGames(after, 1)
	return s.list(), api.OK
}

// Update returns totals with a difference.
func Update(t, d []Total) ([]Total, api.Errno) {
	if e := first(CheckTotals(t), CheckTotals(d)); e != api.OK {
		return nil, e
	}
	s := sums{}
	for _, x := range slices.Concat(t, d) {
		s.add(x, 1)
	}
	l := s.list()
	// The players are in order, so only the errors of size and of numbers are left.
	if e := CheckTotals(l); e != api.OK {
		return nil, e
	}
	return l, api.OK
}

// CheckTotals returns the first error of totals, or OK.
func CheckTotals(t []Total) api.Errno {
	if len(t) > MaxTotals {
		return api.ErrMany
	}
	for i, x := range t {
		if e := first(checkNames(x.Player), checkNumbers(x), checkTotalOrder(t[:i], x)); e != api.OK {
			return e
		}
	}
	return api.OK
}

// checkNumbers returns ErrRange if a number of a total is not within the limits of numbers.
func checkNumbers(t Total) api.Errno {
	return first(
		checkRange(-api.MaxNumber, api.MaxNumber, t.Games),
		checkRange(-api.MaxNumber, api.MaxNumber, t.Counts[:]...),
	)
}

// checkTotalOrder returns ErrOrder if a total does not come after the last one of those before it.
func checkTotalOrder(before []Total, t Total) api.Errno {
	if n := len(before); n > 0 && before[n-1].Player >= t.Player {
		return api.ErrOrder
	}
	return api.OK
}
