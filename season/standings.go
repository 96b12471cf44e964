package season

import (
	"cmp"
	"maps"
	"slices"

	"dugout/api"
	"dugout/play"
)

// Standings returns the standings of a book.
func Standings(b Book) ([]Standing, api.Errno) {
	if e := CheckBook(b); e != api.OK {
		return nil, e
	}
	known := map[string]Standing{}
	for g := range games(b.Games) {
		for side, team := range g.Teams {
			known[team] = known[team].with(g, side)
		}
	}
	return slices.SortedFunc(maps.Values(known), Standing.compare), api.OK
}

// with returns the standing of the team of a side with a game more.
func (s Standing) with(g Game, side int) Standing {
	s.Team = g.Teams[side]
	own, other := g.Score[side], g.Score[1-side]
	switch cmp.Compare(own, other) {
	case 1:
		s.Won++
	case 0:
		s.Tied++
	default:
		s.Lost++
	}
	s.For += own
	s.Against += other
	return s
}

// compare compares standings of different teams by their order.
func (s Standing) compare(other Standing) int {
	return cmp.Or(
		compareRates(other.rate(), s.rate()),
		cmp.Compare(other.For-other.Against, s.For-s.Against),
		cmp.Compare(s.Team, other.Team),
	)
}

// rate returns the quotient of the games won and those won or lost; it is 0 if there are none.
func (s Standing) rate() api.Ratio {
	rate, _ := play.Rate(s.Won, max(1, s.Won+s.Lost))
	return rate
}

// Behind returns how many half games a standing is behind another one.
func Behind(leader, s Standing) (int, api.Errno) {
	if e := first(checkStanding(leader), checkStanding(s)); e != api.OK {
		return 0, e
	}
	return leader.Won - s.Won + s.Lost - leader.Lost, api.OK
}

func checkStanding(s Standing) api.Errno {
	return first(
		checkNames(s.Team),
		checkRange(0, api.MaxNumber, s.Won, s.Lost, s.Tied, s.For, s.Against),
	)
}
