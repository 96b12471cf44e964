package judge

import (
	"cmp"
	"maps"
	"slices"

	"dugout/api"
)

// The kinds of judgments.
const (
	hit       = "hit"
	life      = "life"
	fault     = "error" // error is a type of the language
	choice    = "choice"
	wild      = "wild"
	passed    = "passed"
	steal     = "steal"
	idle      = "idle"
	sacrifice = "sacrifice"
)

// groups are kinds of which a move has at most one judgment. For one of the kinds of the first three groups some moves ask.
var groups = [...][3]string{
	{hit, life, choice},
	{wild, passed},
	{steal, idle, life},
	{life, fault},
	{hit, sacrifice},
}

// The indices of the groups that are asked for.
const (
	batted = iota
	gotAway
	stolen
)

// kind is the scoring rule for the judgments of a kind: its number, and whether a judgment fits a move.
type kind struct {
	rule int
	fits func(spot, api.Judgment) bool
}

func kinds() map[string]kind {
	return map[string]kind{
		hit:       {1, fitsHit},
		life:      {2, fitsLife},
		fault:     {3, fitsFault},
		choice:    {4, fitsBatted},
		wild:      {5, fitsGotAway},
		passed:    {6, fitsGotAway},
		steal:     {7, fitsStolen},
		idle:      {8, fitsStolen},
		sacrifice: {9, fitsSacrifice},
	}
}

// Kinds returns the kinds, in the order of their numbers.
func Kinds() []string {
	table := kinds()
	return slices.SortedFunc(maps.Keys(table), func(a, b string) int {
		return cmp.Compare(table[a].rule, table[b].rule)
	})
}

// Rule returns the number of a kind.
func Rule(name string) (int, api.Errno) {
	k, found := kinds()[name]
	if !found {
		return 0, api.ErrKind
	}
	return k.rule, api.OK
}

// Excludes reports whether two judgments exclude one another.
func Excludes(a, b api.Judgment) bool {
	if a.Play != b.Play || a == b {
		return false
	}
	if a.From != b.From {
		return areKinds(a, b, wild, passed) || areKinds(b, a, wild, passed)
	}
	return a.Kind == b.Kind || shareGroup(a.Kind, b.Kind) || goesBeyond(a, b) || goesBeyond(b, a)
}

func areKinds(a, b api.Judgment, first, second string) bool {
	return a.Kind == first && b.Kind == second
}

func shareGroup(a, b string) bool {
	for _, group := range groups {
		if isIn(group, a) && isIn(group, b) {
			return true
		}
	}
	return false
}

// isIn reports whether a kind is in a group; a place of a group that is empty has no kind.
func isIn(group [3]string, name string) bool {
	for _, k := range group {
		if k == name && k != "" {
			return true
		}
	}
	return false
}

// goesBeyond reports whether a judgment is a hit to a base above the one where an error says that the batter would have ended.
func goesBeyond(a, b api.Judgment) bool {
	return areKinds(a, b, hit, fault) && a.Base > b.Base
}

func fitsHit(s spot, j api.Judgment) bool {
	return s.isBatted() && within(j.Base, 1, s.move.To) && j.Fielder == 0
}

func fitsLife(s spot, j api.Judgment) bool {
	return s.isSafeBy("bts") && j.Base == 0 && s.isTouchedBy(j.Fielder)
}

// fitsFault: the batter has no base where he would have stayed, so it is the first one at least.
func fitsFault(s spot, j api.Judgment) bool {
	return s.isSafeBy("btsp") && within(j.Base, max(s.move.From, 1), s.move.To-1) && s.isTouchedBy(j.Fielder)
}

func fitsBatted(s spot, j api.Judgment) bool {
	return s.isBatted() && isPlain(j)
}

func fitsGotAway(s spot, j api.Judgment) bool {
	return s.isGotAway() && isPlain(j)
}

func fitsStolen(s spot, j api.Judgment) bool {
	return s.isStolen() && isPlain(j)
}

func fitsSacrifice(s spot, j api.Judgment) bool {
	return s.isInPlay() && (s.move.Out || s.isBatted()) && s.outs < 2 && s.helpsOthers() && isPlain(j)
}

// isPlain reports whether a judgment has neither a base nor a fielder.
func isPlain(j api.Judgment) bool {
	return j.Base == 0 && j.Fielder == 0
}
