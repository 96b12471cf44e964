package lineup_test

import (
	"strconv"
	"strings"
	"testing"

	"dugout/api"
	"dugout/lineup"
)

func TestCheckLineup(t *testing.T) {
	want(t, "side 0", lineup.CheckLineup(teams()[0]), api.OK)
	want(t, "side 1", lineup.CheckLineup(teams()[1]), api.OK)
	long := teams()[0]
	long.Batters[0], long.Batters[1] = strings.Repeat("a", 24), "A_9"
	want(t, "a name of 24 bytes", lineup.CheckLineup(long), api.OK)
	want(t, "nothing", lineup.CheckLineup(lineup.Lineup{}), api.ErrName)
	for i := range 9 {
		for j := range 9 {
			l := teams()[0]
			l.Batters[i] = l.Batters[j]
			l.Positions[8-i] = l.Positions[8-j]
			wanted := api.ErrTwice
			if i == j {
				wanted = api.OK
			}
			want(t, "a player twice", lineup.CheckLineup(l), wanted)
			l.Batters = teams()[0].Batters
			if i != j {
				wanted = api.ErrConflict
			}
			want(t, "a position twice", lineup.CheckLineup(l), wanted)
		}
		for _, position := range []int{-1, 0, 10} {
			l := teams()[0]
			l.Positions[i] = position
			want(t, "a wrong position", lineup.CheckLineup(l), api.ErrRange)
		}
		l := teams()[0]
		l.Batters[i] = "_"
		want(t, "a wrong name", lineup.CheckLineup(l), api.ErrName)
	}
}

func TestCheckTeams(t *testing.T) {
	want(t, "the teams of the examples", lineup.CheckTeams(teams()), api.OK)
	for i := range 9 {
		for j := range 9 {
			x := teams()
			x[1].Batters[j] = x[0].Batters[i]
			want(t, "a player on both sides", lineup.CheckTeams(x), api.ErrTwice)
			want(t, "a player on one side", lineup.CheckLineup(x[1]), api.OK)
		}
	}
}

func TestCheckChanges(t *testing.T) {
	for what, l := range map[string][]lineup.Change{
		"none":                            nil,
		"those of the examples":           calls(),
		"the last of them":                calls()[2:],
		"two of them":                     calls()[:2],
		"the first and the last play":     {at(0, 0, 1, "c", 2), at(256, 1, 9, "d", 1)},
		"a change of positions":           {at(7, 0, 2, "a2", 4), at(7, 0, 3, "a3", 3)},
		"there and back":                  {at(7, 0, 2, "a2", 4), at(7, 0, 3, "a3", 3), at(8, 0, 2, "a2", 3), at(8, 0, 3, "a3", 4)},
		"both sides before a play":        {at(7, 0, 9, "c", 1), at(7, 1, 1, "d", 2)},
		"a conflict within a call":        {at(7, 0, 1, "c", 3), at(7, 0, 2, "d", 4), at(7, 0, 3, "a3", 2)},
		"one after another in a slot":     {at(1, 0, 1, "c", 2), at(2, 0, 1, "d", 2), at(3, 0, 1, "e", 2)},
		"who came in, at another place":   calls(at(5, 1, 1, "c1", 1), at(5, 1, 9, "c9", 9)),
		"a name that differs by its case": {at(0, 0, 1, "A1", 2)},
		"sides by plays, then slots":      {at(1, 1, 9, "c", 1), at(2, 0, 1, "d", 2), at(2, 1, 1, "e", 2)},
	} {
		want(t, what, lineup.CheckChanges(teams(), l), api.OK)
	}
}

func TestAsManyChangesAsPossible(t *testing.T) {
	var l []lineup.Change
	for i := range 64 {
		l = append(l, at(4*i, i%2, 9, "p"+strconv.Itoa(i), 1))
	}
	want(t, "64 changes", lineup.CheckChanges(teams(), l), api.OK)
	all, _ := lineup.Names(teams(), l)
	want(t, "the names of both sides", []int{len(all[0]), len(all[1])}, []int{41, 41})
	l = append(l, at(256, 0, 9, "q", 1))
	want(t, "65 changes", lineup.CheckChanges(teams(), l), api.ErrMany)
	l[0].Side = 2
	want(t, "65 changes, one of them wrong", lineup.CheckChanges(teams(), l), api.ErrMany)
	want(t, "a wrong one of 64", lineup.CheckChanges(teams(), l[:64]), api.ErrSide)
}

// Example 3 of the document.
func TestExampleOfConflicts(t *testing.T) {
	want(t, "the second change alone", lineup.CheckChanges(teams(), calls()[1:2]), api.ErrConflict)
	l := calls()
	l[2].Player = "b1"
	want(t, "b1 comes back", lineup.CheckChanges(teams(), l), api.ErrPlayer)
}
