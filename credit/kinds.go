package credit

import (
	"cmp"

	"dugout/api"
)

// holders are those to whom credits of a kind are given: some slots of the side that bats, or some positions of the side in the field.
type holders struct {
	inField bool
	low     int
	high    int
}

var (
	batters  = holders{false, 1, slots}
	fielders = holders{true, 1, positions}
	pitchers = holders{true, pitcher, pitcher}
	catchers = holders{true, catcher, catcher}
)

// includes reports whether a slot and a position are together one of the holders.
func (h holders) includes(slot, position int) bool {
	if h.inField {
		return slot == 0 && within(position, h.low, h.high)
	}
	return position == 0 && within(slot, h.low, h.high)
}

// kind is a kind of credits: whose they are, and how those of a play are counted.
type kind struct {
	name string
	holders
	count func(scene, tally)
}

// kinds returns the kinds, in order.
func kinds() []kind {
	return []kind{
		{"turn", batters, toBatter(scene.endsTurn)},
		{"ab", batters, toBatter(scene.isAtBat)},
		{"h", batters, toBatter(judged(hit))},
		{"d", batters, toBatter(hitOf(2))},
		{"t", batters, toBatter(hitOf(3))},
		{"hr", batters, toBatter(hitOf(4))},
		{"r", batters, scene.countRuns},
		{"rbi", batters, scene.countBattedIn},
		{"w", batters, toBatter(event("W"))},
		{"k", batters, toBatter(event("K"))},
		{"hp", batters, toBatter(event("H"))},
		{"ci", batters, toBatter(event("I"))},
		{"sac", batters, toBatter(judged(sacrifice))},
		{"sb", batters, scene.countSteals},
		{"cs", batters, scene.countCaught},
		{"lob", batters, scene.countLeft},
		{"po", fielders, scene.countPutouts},
		{"a", fielders, scene.countAssists},
		{"e", fielders, scene.countErrors},
		{"dp", fielders, scene.countDouble},
		{"pb", catchers, toFielder(catcher, judged(passed))},
		{"out", pitchers, scene.countOuts},
		{"ha", pitchers, toFielder(pitcher, judged(hit))},
		{"wa", pitchers, toFielder(pitcher, event("W"))},
		{"ka", pitchers, toFielder(pitcher, event("K"))},
		{"hb", pitchers, toFielder(pitcher, event("H"))},
		{"ra", pitchers, scene.countRunsAgainst},
		{"wp", pitchers, toFielder(pitcher, judged(wild))},
		{"bk", pitchers, toFielder(pitcher, scene.hasBalk)},
	}
}

// Kinds returns the kinds of credits, in order.
func Kinds() []string {
	var names []string
	for _, k := range kinds() {
		names = append(names, k.name)
	}
	return names
}

// catalog finds kinds by their names.
type catalog struct {
	kinds []kind
	ranks map[string]int
}

func newCatalog() catalog {
	c := catalog{kinds(), map[string]int{}}
	for rank, k := range c.kinds {
		c.ranks[k.name] = rank
	}
	return c
}

func (c catalog) checkKind(name string) api.Errno {
	if _, known := c.ranks[name]; !known {
		return api.ErrKind
	}
	return api.OK
}

// checkHolder returns the first error of the side, the kind, the slot and the position of a total.
func (c catalog) checkHolder(t Total) api.Errno {
	if e := first(checkSide(t.Side), c.checkKind(t.Kind)); e != api.OK {
		return e
	}
	if !c.kinds[c.ranks[t.Kind]].includes(t.Slot, t.Position) {
		return api.ErrShape
	}
	return api.OK
}

// compare compares totals by their order.
func (c catalog) compare(a, b Total) int {
	return cmp.Or(
		cmp.Compare(a.Side, b.Side),
		cmp.Compare(c.ranks[a.Kind], c.ranks[b.Kind]),
		cmp.Compare(a.Slot, b.Slot),
		cmp.Compare(a.Position, b.Position),
	)
}
