package lineup_test

import (
	"math"
	"testing"

	"dugout/api"
	"dugout/lineup"
)

// whole returns the stints of a side that makes no changes in n plays.
func whole(side, n int) []lineup.Stint {
	var l []lineup.Stint
	for i, player := range teams()[side].Batters {
		l = append(l, lineup.Stint{Side: side, Slot: i + 1, Position: teams()[side].Positions[i], Player: player, To: n})
	}
	return l
}

// stint returns a stint of side 1.
func stint(slot, position int, player string, from, to int) lineup.Stint {
	return lineup.Stint{Side: 1, Slot: slot, Position: position, Player: player, From: from, To: to}
}

func TestStints(t *testing.T) {
	stints, e := lineup.Stints(teams(), nil, 5)
	want(t, "stints without changes", stints, append(whole(0, 5), whole(1, 5)...))
	want(t, "the error of Stints", e, api.OK)
	stints, _ = lineup.Stints(teams(), calls(), 6)
	all := append(whole(0, 6), stint(1, 2, "b1", 0, 2), stint(1, 9, "c1", 2, 6))
	all = append(all, whole(1, 6)[1:7]...)
	all = append(all, stint(8, 9, "b8", 0, 2), stint(8, 2, "b8", 2, 6), stint(9, 1, "b9", 0, 4), stint(9, 1, "c9", 4, 6))
	want(t, "the stints of the examples", stints, all)
	stints, _ = lineup.Stints(teams(), calls(), 2)
	want(t, "the stints before all changes", stints, append(whole(0, 2), whole(1, 2)...))
	stints, e = lineup.Stints(teams(), calls(), 0)
	want(t, "the stints of no plays", stints, nil)
	want(t, "the error of no plays", e, api.OK)
	for _, n := range []int{math.MinInt, -1, 257, math.MaxInt} {
		stints, e = lineup.Stints(teams(), calls(), n)
		want(t, "the stints of no number", stints, nil)
		want(t, "the error of no number", e, api.ErrRange)
	}
}

func TestStintsOfSpecialChanges(t *testing.T) {
	l := []lineup.Change{at(0, 1, 1, "c", 2), at(1, 1, 2, "b2", 4), at(1, 1, 3, "b3", 3), at(3, 1, 2, "b2", 3), at(3, 1, 3, "b3", 4), at(256, 1, 9, "d", 1)}
	stints, e := lineup.Stints(teams(), l, 256)
	want(t, "the error of Stints", e, api.OK)
	all := append(whole(0, 256), stint(1, 2, "c", 0, 256), stint(2, 3, "b2", 0, 1), stint(2, 4, "b2", 1, 3), stint(2, 3, "b2", 3, 256))
	all = append(all, stint(3, 4, "b3", 0, 1), stint(3, 3, "b3", 1, 3), stint(3, 4, "b3", 3, 256))
	want(t, "before play 0, there and back, and behind the last play", stints, append(all, whole(1, 256)[3:]...))
	l = []lineup.Change{at(1, 1, 4, "c", 5), at(2, 1, 4, "d", 5)}
	stints, _ = lineup.Stints(teams(), l, 3)
	want(t, "one play each", stints[12:15], []lineup.Stint{stint(4, 5, "b4", 0, 1), stint(4, 5, "c", 1, 2), stint(4, 5, "d", 2, 3)})
}

func TestPitchers(t *testing.T) {
	pitchers, e := lineup.Pitchers(teams(), calls(), 6, 1)
	want(t, "the error of Pitchers", e, api.OK)
	want(t, "the pitchers of the examples", pitchers, []lineup.Stint{stint(9, 1, "b9", 0, 4), stint(9, 1, "c9", 4, 6)})
	pitchers, _ = lineup.Pitchers(teams(), calls(), 6, 0)
	want(t, "the pitcher of side 0", pitchers, []lineup.Stint{{Slot: 9, Position: 1, Player: "a9", To: 6}})
	pitchers, _ = lineup.Pitchers(teams(), calls(), 0, 1)
	want(t, "the pitchers of no plays", pitchers, nil)
	l := []lineup.Change{at(1, 1, 3, "b3", 1), at(1, 1, 9, "b9", 4), at(3, 1, 3, "b3", 5), at(3, 1, 4, "c", 1), at(5, 1, 4, "c", 4), at(5, 1, 9, "b9", 1)}
	pitchers, _ = lineup.Pitchers(teams(), l, 7, 1)
	want(t, "pitchers of several slots, by plays", pitchers, []lineup.Stint{stint(9, 1, "b9", 0, 1), stint(3, 1, "b3", 1, 3), stint(4, 1, "c", 3, 5), stint(9, 1, "b9", 5, 7)})
	for _, row := range []struct {
		n, side int
		err     api.Errno
	}{{-1, 2, api.ErrRange}, {257, 2, api.ErrRange}, {0, 2, api.ErrSide}, {256, -1, api.ErrSide}, {6, math.MaxInt, api.ErrSide}} {
		pitchers, e = lineup.Pitchers(teams(), calls(), row.n, row.side)
		want(t, "pitchers of nothing", pitchers, nil)
		want(t, "the error of pitchers of nothing", e, row.err)
	}
}
