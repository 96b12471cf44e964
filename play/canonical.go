package play

import (
	"cmp"
	"slices"

	"dugout/api"
)

// maxLooseTouches is the greatest number of touches of a move that is written loosely.
const maxLooseTouches = 4 * api.MaxTouches

// Canonical returns the canonical form of a play that is written loosely.
func Canonical(p api.Play) (api.Play, api.Errno) {
	if e := first(checkLooseSize(p), checkOneEach(p.Moves)); e != api.OK {
		return api.Play{}, e
	}
	c := tidy(p)
	if e := CheckPlay(c); e != api.OK {
		return api.Play{}, e
	}
	return c, api.OK
}

// Equal reports whether two plays have the same canonical form.
func Equal(a, b api.Play) (bool, api.Errno) {
	x, errorOfA := Canonical(a)
	y, errorOfB := Canonical(b)
	if e := first(errorOfA, errorOfB); e != api.OK {
		return false, e
	}
	return printPlay(x) == printPlay(y), api.OK
}

func checkLooseSize(p api.Play) api.Errno {
	if len(p.Pitches) > api.MaxPitches || len(p.Moves) > MaxMoves {
		return api.ErrMany
	}
	for _, m := range p.Moves {
		if len(m.By) > maxLooseTouches {
			return api.ErrMany
		}
	}
	return api.OK
}

func checkOneEach(moves []api.Move) api.Errno {
	began := map[int]bool{}
	for _, m := range moves {
		if began[m.From] {
			return api.ErrTwice
		}
		began[m.From] = true
	}
	return api.OK
}

func tidy(p api.Play) api.Play {
	sorted := make([]api.Move, len(p.Moves))
	copy(sorted, p.Moves)
	slices.SortFunc(sorted, func(a, b api.Move) int { return cmp.Compare(b.From, a.From) })
	c := api.Play{Pitches: p.Pitches, Event: p.Event}
	c.Moves = filter(sorted, func(m api.Move) bool { return !stays(m) })
	for i := range c.Moves {
		c.Moves[i].By = slices.Compact(slices.Clone(c.Moves[i].By))
	}
	c.Late = p.Late && slices.ContainsFunc(c.Moves, isRun) && slices.ContainsFunc(c.Moves, isOut)
	return c
}

// stays reports whether a move is a safe one that may be left out, for its runner stays.
func stays(m api.Move) bool {
	_, found := findWay(false, m.How)
	return !m.Out && m.To == m.From && within(m.From, 1, 3) && found && m.How != "b"
}
