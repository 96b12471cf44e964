package credit

import (
	"slices"

	"dugout/api"
)

// sums are numbers by totals that have the number 0.
type sums map[Total]int

// blank returns a total with the number 0, as sums have it.
func blank(t Total) Total {
	t.N = 0
	return t
}

// holder returns whose a credit is, as a total with the number 0.
func holder(c Credit) Total {
	return Total{Side: c.Side, Kind: c.Kind, Slot: c.Slot, Position: c.Position}
}

// addCredits adds credits so many times.
func (s sums) addCredits(l []Credit, times int) {
	for _, c := range l {
		s[holder(c)] += times * c.N
	}
}

// addTotals adds totals so many times.
func (s sums) addTotals(l []Total, times int) {
	for _, t := range l {
		s[blank(t)] += times * t.N
	}
}

// totals returns the totals with numbers other than 0.
func (s sums) totals() ([]Total, api.Errno) {
	var l []Total
	for t, n := range s {
		if e := checkLarge(n); e != api.OK {
			return nil, e
		}
		if n != 0 {
			t.N = n
			l = append(l, t)
		}
	}
	return sorted(l), api.OK
}

// sorted returns totals in their order.
func sorted(l []Total) []Total {
	c := newCatalog()
	ordered := make([]Total, len(l))
	copy(ordered, l)
	slices.SortFunc(ordered, func(a, b Total) int { return c.compare(a, b) })
	return ordered
}

func checkLarge(n int) api.Errno {
	if !within(n, -api.MaxNumber, api.MaxNumber) {
		return api.ErrLarge
	}
	return api.OK
}

func checkRange(n, low, high int) api.Errno {
	if !within(n, low, high) {
		return api.ErrRange
	}
	return api.OK
}

// CheckCredits returns the first error of credits, or OK.
func CheckCredits(l []Credit) api.Errno {
	if len(l) > MaxCredits {
		return api.ErrMany
	}
	known := newCatalog()
	for _, c := range l {
		e := first(
			checkRange(c.Play, 0, api.MaxPlays-1),
			known.checkHolder(holder(c)),
			checkRange(c.N, 1, api.MaxNumber),
		)
		if e != api.OK {
			return e
		}
	}
	return api.OK
}

// Sum returns the totals of credits.
func Sum(l []Credit) ([]Total, api.Errno) {
	if e := CheckCredits(l); e != api.OK {
		return nil, e
	}
	s := sums{}
	s.addCredits(l, 1)
	return s.totals()
}

// CheckTotals returns the first error of totals, or OK.
func CheckTotals(t []Total) api.Errno {
	if len(t) > MaxTotals {
		return api.ErrMany
	}
	known := newCatalog()
	for i, x := range t {
		e := first(
			known.checkHolder(x),
			checkRange(x.N, -api.MaxNumber, api.MaxNumber),
			checkNotZero(x.N),
			known.checkOrder(t[:i], x),
		)
		if e != api.OK {
			return e
		}
	}
	return api.OK
}

func checkNotZero(n int) api.Errno {
	if n == 0 {
		return api.ErrZero
	}
	return api.OK
}

// checkOrder returns ErrOrder if a total does not come after the last one of those before it.
func (c catalog) checkOrder(before []Total, t Total) api.Errno {
	if n := len(before); n > 0 && c.compare(before[n-1], t) >= 0 {
		return api.ErrOrder
	}
	return api.OK
}

// Plus returns the sums of totals.
func Plus(a, b []Total) ([]Total, api.Errno) {
	return combined(a, b, 1)
}

// Minus returns the differences of totals.
func Minus(a, b []Total) ([]Total, api.Errno) {
	return combined(a, b, -1)
}

// combined returns totals with others added so many times.
func combined(a, b []Total, times int) ([]Total, api.Errno) {
	if e := first(CheckTotals(a), CheckTotals(b)); e != api.OK {
		return nil, e
	}
	s := sums{}
	s.addTotals(a, 1)
	s.addTotals(b, times)
	return s.totals()
}

// Of returns the number of a kind that a total has.
func Of(t []Total, side int, kind string, who int) (int, api.Errno) {
	known := newCatalog()
	if e := first(CheckTotals(t), checkSide(side), known.checkKind(kind)); e != api.OK {
		return 0, e
	}
	wanted := Total{Side: side, Kind: kind, Slot: who}
	if known.kinds[known.ranks[kind]].inField {
		wanted.Slot, wanted.Position = 0, who
	}
	if e := known.checkHolder(wanted); e != api.OK {
		return 0, e
	}
	return number(t, wanted), api.OK
}

// number returns the number of the total that is the wanted one but for its number, or 0.
func number(t []Total, wanted Total) int {
	for _, x := range t {
		if blank(x) == wanted {
			return x.N
		}
	}
	return 0
}

// Team returns the number of a kind that a side has together.
func Team(t []Total, side int, kind string) (int, api.Errno) {
	known := newCatalog()
	if e := first(CheckTotals(t), checkSide(side), known.checkKind(kind)); e != api.OK {
		return 0, e
	}
	n := 0
	for _, x := range filter(t, func(x Total) bool { return x.Side == side && x.Kind == kind }) {
		n += x.N
	}
	return notLarge(n)
}

// Bases returns how many bases the hits of a batter have.
func Bases(t []Total, side, slot int) (int, api.Errno) {
	if e := first(CheckTotals(t), checkSide(side), checkRange(slot, 1, slots)); e != api.OK {
		return 0, e
	}
	hits := func(kind string) int { return number(t, Total{Side: side, Kind: kind, Slot: slot}) }
	return notLarge(hits("h") + hits("d") + 2*hits("t") + 3*hits("hr"))
}

// notLarge returns a number, or ErrLarge alone.
func notLarge(n int) (int, api.Errno) {
	if e := checkLarge(n); e != api.OK {
		return 0, e
	}
	return n, api.OK
}
